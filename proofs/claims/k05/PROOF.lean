import PyProof.Rows.All
import Wide.All
import OpenK.AllK
import Wide.FinOn
import HandS.ForMost
import HandS.ForExc
import HandS.Wide
import HandS.TupAny
import HandS.TupMul
import HandS.RaiseMore
import HandS.ExcInit
import HandS.IsInst
import HandS.Conv
import HandS.Style
import HandS.Lambda
import KE.KExcInit
import KE.KExcMake
import KE.KExcIs
import KE.KIsAll
import HandS.List
import HandS.Dict
import PyProof.ReprReads
import PyProof.ReprRoads
import PyProof.CallFns
import HandS.More
import HandS.Iter
import KE.GoesEnum
import KE.GoesMore
import HandS.Text
import HandS.TryOnly
import PyProof.ListStr
import PyProof.Rows.StrMeet
import HandS.Property
import HandS.Defaults
import HandS.MakeKw
import PyProof.InstSpecial
import HandS.SetBool
import HandS.Strs
import HandS.SortOrd
import HandS.TupSets
import PyProof.InstNe
import PyProof.TupleOfSeq
import HandS.Ends
import PySem.Challenge.RW_closedroads_k05_whole_webs_changed
set_option Elab.async false
set_option linter.all false
set_option maxRecDepth 100000
set_option maxHeartbeats 4000000
/-! A heap-free calculus over the hand layer: data, cells of lists, what an expression, a statement comes to. -/
namespace Al
open PySem PySem.Spec PyProof.Rows L2

/-- data: immutable things by what they hold -/
inductive Da where
  | non | bl (b : Bool) | int (i : Int) | str (x : Str) | ty (n : String) | cl (c : Str)
  | tup (l : List Da) | lst (l : List Da) | dic (ks : List Key) (l : List Da) | scr (ns : List Int)
  | ins (c : Str) (ks : List Str) (l : List Da) | exc (c : Str) (ks : List Str) (l : List Da) | raw (a : Addr)

mutual
inductive Dn (ca : Str → Addr) (K : PySem.W.Frag) (G : Hp) : V → Da → Prop
  | non : Dn ca K G .non .non
  | bl (b : Bool) : Dn ca K G (.bl b) (.bl b)
  | int (i : Int) : Dn ca K G (.int i) (.int i)
  | str (x : Str) : Dn ca K G (.str x) (.str x)
  | ty (n : String) : Dn ca K G (.ty n) (.ty n)
  | cl (c : Str) : Dn ca K G (.ref (ca c)) (.cl c)
  | tup {a : Addr} {xs : List V} {ds : List Da} : SqT K G a xs → DnL ca K G xs ds → Dn ca K G (.ref a) (.tup ds)
  | lst {a : Addr} {xs : List V} {ds : List Da} : G a = some (.lst xs) → DnL ca K G xs ds → Dn ca K G (.ref a) (.lst ds)
  | scr {a : Addr} {ns : List Int} : SqL K G a (ns.map V.int) → Dn ca K G (.ref a) (.scr ns)
  | dic {a : Addr} {kvs : List (Key × V)} {ks : List Key} {ds : List Da} : G a = some (.dK kvs) → kvs.map (·.1) = ks → DnL ca K G (kvs.map (·.2)) ds → Dn ca K G (.ref a) (.dic ks ds)
  | ins {a dx : Addr} {fs : List (Str × V)} {c : Str} {ks : List Str} {ds : List Da} : G a = some (.ins (ca c) dx fs) → fs.map (·.1) = ks → DnL ca K G (fs.map (·.2)) ds → Dn ca K G (.ref a) (.ins c ks ds)
  | raw (a : Addr) : Dn ca K G (.ref a) (.raw a)
  | exc0 {a : Addr} {c : Str} : G a = some (exo a (ca c) none) → Dn ca K G (.ref a) (.exc c [] [])
  | exc1 {a dx : Addr} {fs : List (Str × V)} {c : Str} {ks : List Str} {ds : List Da} : G a = some (exo a (ca c) (some dx)) → G dx = some (exd dx fs) → fs.map (·.1) = ks → DnL ca K G (fs.map (·.2)) ds → Dn ca K G (.ref a) (.exc c ks ds)
inductive DnL (ca : Str → Addr) (K : PySem.W.Frag) (G : Hp) : List V → List Da → Prop
  | nil : DnL ca K G [] []
  | cons {v : V} {vs : List V} {d : Da} {ds : List Da} : Dn ca K G v d → DnL ca K G vs ds → DnL ca K G (v :: vs) (d :: ds)
end

/-- all that was known is as it was -/
def Ex (G G' : Hp) : Prop := ∀ a o, G a = some o → G' a = some o
theorem Ex.refl (G : Hp) : Ex G G := fun _ _ h => h
theorem Ex.trans {G H I : Hp} (a : Ex G H) (b : Ex H I) : Ex G I := fun x o h => b x o (a x o h)
theorem Ex.new {G : Hp} {p : Addr} {o : HO} (h : G p = none) : Ex G (upd G p o) := fun a u e => by
  rw [upd_ne (ne_of_none e h)]
  exact e
theorem Ex.rd {G G' : Hp} (e : Ex G G') {a : Addr} {u : HO} (h : Rd G a u) : Rd G' a u := by
  rcases h with h | ⟨o, h⟩
  · exact Or.inl (e a _ h)
  · exact Or.inr ⟨o, e a _ h⟩
theorem Ex.sql {K : PySem.W.Frag} {G G' : Hp} (e : Ex G G') {a : Addr} {xs : List V} (h : SqL K G a xs) : SqL K G' a xs := by
  rcases h with h | h
  · exact Or.inl (e.rd h)
  · exact Or.inr h
theorem Ex.sqt {K : PySem.W.Frag} {G G' : Hp} (e : Ex G G') {a : Addr} {xs : List V} (h : SqT K G a xs) : SqT K G' a xs := by
  rcases h with h | h
  · exact Or.inl (e.rd h)
  · exact Or.inr h
mutual
theorem Dn.mono {ca : Str → Addr} {K : PySem.W.Frag} {G G' : Hp} (e : Ex G G') : ∀ {v : V} {d : Da}, Dn ca K G v d → Dn ca K G' v d
  | _, _, .non => .non
  | _, _, .bl b => .bl b
  | _, _, .int i => .int i
  | _, _, .str x => .str x
  | _, _, .ty n => .ty n
  | _, _, .cl n => .cl n
  | _, _, .tup h l => .tup (e.sqt h) (l.mono e)
  | _, _, .lst h l => .lst (e _ _ h) (l.mono e)
  | _, _, .scr h => .scr (e.sql h)
  | _, _, .dic h k l => .dic (e _ _ h) k (l.mono e)
  | _, _, .ins h k l => .ins (e _ _ h) k (l.mono e)
  | _, _, .raw a => .raw a
  | _, _, .exc0 h => .exc0 (e _ _ h)
  | _, _, .exc1 h h2 k l => .exc1 (e _ _ h) (e _ _ h2) k (l.mono e)
theorem DnL.mono {ca : Str → Addr} {K : PySem.W.Frag} {G G' : Hp} (e : Ex G G') : ∀ {vs : List V} {ds : List Da}, DnL ca K G vs ds → DnL ca K G' vs ds
  | _, _, .nil => .nil
  | _, _, .cons h t => .cons (h.mono e) (t.mono e)
end
section
variable {ca : Str → Addr} {K : PySem.W.Frag} {G : Hp}
theorem DnL.length : ∀ {vs : List V} {ds : List Da}, DnL ca K G vs ds → vs.length = ds.length
  | _, _, .nil => rfl
  | _, _, .cons _ t => congrArg (· + 1) t.length
theorem DnL.get : ∀ {vs : List V} {ds : List Da} {i : Nat} {d : Da}, DnL ca K G vs ds → ds[i]? = some d → ∃ v, vs[i]? = some v ∧ Dn ca K G v d
  | _, _, _, _, .nil, e => by simp at e
  | _, _, 0, _, .cons h _, e => by
    have e' := Option.some.inj e
    subst e'
    exact ⟨_, rfl, h⟩
  | _, _, i + 1, d, .cons _ t, e => DnL.get (i := i) t e
theorem DnL.at_ : ∀ {vs : List V} {ds : List Da} {i : Nat} {v : V}, DnL ca K G vs ds → vs[i]? = some v → ∃ d, ds[i]? = some d ∧ Dn ca K G v d
  | _, _, _, _, .nil, e => by simp at e
  | _, _, 0, _, .cons h _, e => by
    have e' := Option.some.inj e
    subst e'
    exact ⟨_, rfl, h⟩
  | _, _, i + 1, v, .cons _ t, e => DnL.at_ (i := i) t e
theorem DnL.append : ∀ {vs us : List V} {ds es : List Da}, DnL ca K G vs ds → DnL ca K G us es → DnL ca K G (vs ++ us) (ds ++ es)
  | _, _, _, _, .nil, h => h
  | _, _, _, _, .cons h t, u => .cons h (t.append u)
theorem DnL.take : ∀ {vs : List V} {ds : List Da} (n : Nat), DnL ca K G vs ds → DnL ca K G (vs.take n) (ds.take n)
  | _, _, 0, _ => .nil
  | _, _, n + 1, .nil => .nil
  | _, _, n + 1, .cons h t => .cons h (t.take n)
theorem DnL.drop : ∀ {vs : List V} {ds : List Da} (n : Nat), DnL ca K G vs ds → DnL ca K G (vs.drop n) (ds.drop n)
  | _, _, 0, h => h
  | _, _, n + 1, .nil => .nil
  | _, _, n + 1, .cons _ t => t.drop n
theorem DnL.set {v : V} {d : Da} (h : Dn ca K G v d) : ∀ {vs : List V} {ds : List Da} (n : Nat), DnL ca K G vs ds → DnL ca K G (vs.set n v) (ds.set n d)
  | _, _, _, .nil => .nil
  | _, _, 0, .cons _ t => .cons h t
  | _, _, n + 1, .cons g t => .cons g (DnL.set h n t)
theorem DnL.erase : ∀ {vs : List V} {ds : List Da} (n : Nat), DnL ca K G vs ds → DnL ca K G (vs.eraseIdx n) (ds.eraseIdx n)
  | _, _, _, .nil => .nil
  | _, _, 0, .cons _ t => t
  | _, _, n + 1, .cons g t => .cons g (DnL.erase n t)
theorem Dn.int_inv {v : V} {i : Int} (h : Dn ca K G v (.int i)) : v = .int i := by cases h; rfl
theorem Dn.bl_inv {v : V} {i : Bool} (h : Dn ca K G v (.bl i)) : v = .bl i := by cases h; rfl
theorem Dn.str_inv {v : V} {i : Str} (h : Dn ca K G v (.str i)) : v = .str i := by cases h; rfl
theorem Dn.non_inv {v : V} (h : Dn ca K G v .non) : v = .non := by cases h; rfl
theorem DnL.ints : ∀ {vs : List V} {ns : List Int}, DnL ca K G vs (ns.map Da.int) → vs = ns.map V.int
  | _, [], .nil => rfl
  | _, n :: ns, .cons h t => by
    rw [h.int_inv, DnL.ints t]
    rfl
theorem DnL.of_ints : ∀ (ns : List Int), DnL ca K G (ns.map V.int) (ns.map Da.int)
  | [] => .nil
  | n :: ns => .cons (.int n) (DnL.of_ints ns)
theorem DnL.strs : ∀ {vs : List V} {ns : List Str}, DnL ca K G vs (ns.map Da.str) → vs = ns.map V.str
  | _, [], .nil => rfl
  | _, n :: ns, .cons h t => by
    rw [h.str_inv, DnL.strs t]
    rfl
theorem DnL.of_strs : ∀ (ns : List Str), DnL ca K G (ns.map V.str) (ns.map Da.str)
  | [] => .nil
  | n :: ns => .cons (.str n) (DnL.of_strs ns)
theorem DnL.bls : ∀ {vs : List V} {ns : List Bool}, DnL ca K G vs (ns.map Da.bl) → vs = ns.map V.bl
  | _, [], .nil => rfl
  | _, n :: ns, .cons h t => by
    rw [h.bl_inv, DnL.bls t]
    rfl
theorem DnL.of_bls : ∀ (ns : List Bool), DnL ca K G (ns.map V.bl) (ns.map Da.bl)
  | [] => .nil
  | n :: ns => .cons (.bl n) (DnL.of_bls ns)
end

/-- the heap H holds the data part G and the part R of things that change, apart from one another -/
structure Wd (G R H : Hp) : Prop where
  g : ∀ a o, G a = some o → H a = some o
  r : ∀ a o, R a = some o → H a = some o
  d : ∀ a o, G a = some o → R a = none
theorem Wd.newG {G R H : Hp} {p : Addr} {o : HO} (w : Wd G R H) (h : H p = none) : Wd (upd G p o) R (upd H p o) := by
  have hr : ∀ a u, R a = some u → a ≠ p := fun a u e z => by
    rw [z] at e
    rw [w.r _ _ e] at h
    cases h
  refine ⟨fun a u e => ?_, fun a u e => ?_, fun a u e => ?_⟩
  · by_cases z : a = p
    · rw [z, upd_same] at e
      rw [z, upd_same]
      exact e
    · rw [upd_ne z] at e
      rw [upd_ne z]
      exact w.g a u e
  · rw [upd_ne (hr a u e)]
    exact w.r a u e
  · by_cases z : a = p
    · cases q : R a with
      | none => rfl
      | some u2 => exact absurd z (hr a u2 q)
    · rw [upd_ne z] at e
      exact w.d a u e
theorem Wd.freshG {G R H : Hp} {p : Addr} (w : Wd G R H) (h : H p = none) : G p = none := by
  cases q : G p with
  | none => rfl
  | some o =>
    rw [w.g _ _ q] at h
    cases h
theorem Wd.freshR {G R H : Hp} {p : Addr} (w : Wd G R H) (h : H p = none) : R p = none := by
  cases q : R p with
  | none => rfl
  | some o =>
    rw [w.r _ _ q] at h
    cases h
theorem Wd.newR {G R H : Hp} {p : Addr} {o : HO} (w : Wd G R H) (h : H p = none) : Wd G (upd R p o) (upd H p o) := by
  have hg : ∀ a u, G a = some u → a ≠ p := fun a u e z => by
    rw [z] at e
    rw [w.g _ _ e] at h
    cases h
  refine ⟨fun a u e => ?_, fun a u e => ?_, fun a u e => ?_⟩
  · rw [upd_ne (hg a u e)]
    exact w.g a u e
  · by_cases z : a = p
    · rw [z, upd_same] at e
      rw [z, upd_same]
      exact e
    · rw [upd_ne z] at e
      rw [upd_ne z]
      exact w.r a u e
  · rw [upd_ne (hg a u e)]
    exact w.d a u e
theorem Wd.setR {G R H : Hp} {p : Addr} {o u : HO} (w : Wd G R H) (h : R p = some u) : Wd G (upd R p o) (upd H p o) := by
  have hg : ∀ a u, G a = some u → a ≠ p := fun a v e z => by
    rw [z] at e
    have := w.d _ _ e
    rw [h] at this
    cases this
  refine ⟨fun a u e => ?_, fun a u e => ?_, fun a u e => ?_⟩
  · rw [upd_ne (hg a u e)]
    exact w.g a u e
  · by_cases z : a = p
    · rw [z, upd_same] at e
      rw [z, upd_same]
      exact e
    · rw [upd_ne z] at e
      rw [upd_ne z]
      exact w.r a u e
  · rw [upd_ne (hg a u e)]
    exact w.d a u e
theorem Wd.less {G R R' H : Hp} (w : Wd G R H) (h : Ex R' R) : Wd G R' H :=
  ⟨w.g, fun a o e => w.r a o (h a o e), fun a o e => by
    cases q : R' a with
    | none => rfl
    | some u =>
      have z := w.d a o e
      rw [h a u q] at z
      cases z⟩
/-- an abstract heap without p -/
def cut (R : Hp) (p : Addr) : Hp := fun a => if a = p then none else R a
theorem cut_same {R : Hp} {p : Addr} : cut R p p = none := if_pos rfl
theorem cut_ne {R : Hp} {a p : Addr} (h : a ≠ p) : cut R p a = R a := if_neg h
/-- a thing that won't change any more -/
theorem Wd.freeze {G R H : Hp} {p : Addr} {o : HO} (w : Wd G R H) (h : R p = some o) : Wd (upd G p o) (cut R p) H := by
  refine ⟨fun a u e => ?_, fun a u e => ?_, fun a u e => ?_⟩
  · by_cases z : a = p
    · rw [z, upd_same] at e
      cases e
      rw [z]
      exact w.r _ _ h
    · rw [upd_ne z] at e
      exact w.g a u e
  · by_cases z : a = p
    · rw [z, cut_same] at e
      cases e
    · rw [cut_ne z] at e
      exact w.r a u e
  · by_cases z : a = p
    · rw [z]
      exact cut_same
    · rw [upd_ne z] at e
      rw [cut_ne z]
      exact w.d a u e
theorem Wd.noG {G R H : Hp} {p : Addr} {o : HO} (w : Wd G R H) (h : R p = some o) : G p = none := by
  cases q : G p with
  | none => rfl
  | some u =>
    have z := w.d p u q
    rw [h] at z
    cases z

/-- a value as it is told: data, or the cell k (a list that changes) -/
inductive AV where
  | im (d : Da) | ow (k : Nat)
abbrev Cells := List (Option (List Da))
abbrev En := List (Option AV)
def AVok (ca : Str → Addr) (K : PySem.W.Frag) (G : Hp) (ps : List Addr) (v : V) : AV → Prop
  | .im d => Dn ca K G v d
  | .ow k => ∃ p, ps[k]? = some p ∧ v = .ref p
theorem AVok.mono {ca : Str → Addr} {K : PySem.W.Frag} {G G' : Hp} {ps ps' : List Addr} {v : V} (e : Ex G G') (hp : ∀ (k : Nat) (p : Addr), ps[k]? = some p → ps'[k]? = some p) : ∀ {a : AV}, AVok ca K G ps v a → AVok ca K G' ps' v a
  | .im _, h => Dn.mono e h
  | .ow k, ⟨p, h, q⟩ => ⟨p, hp k p h, q⟩
structure Rep (ca : Str → Addr) (K : PySem.W.Frag) (env : En) (cs : Cells) (ps : List Addr) (σ : L2.St) (G R H : Hp) : Prop where
  wd : Wd G R H
  nd : ps.Nodup
  len : ps.length = cs.length
  cell : ∀ (k : Nat) (p : Addr) (ds : List Da), ps[k]? = some p → cs[k]? = some (some ds) → ∃ vs, R p = some (.lst vs) ∧ DnL ca K G vs ds
  dead : ∀ (k : Nat) (p : Addr), ps[k]? = some p → cs[k]? = some none → ∃ o, G p = some o
  sv : ∀ (i : Nat) (a : AV), env[i]? = some (some a) → ∃ v, σ[i]? = some (some v) ∧ AVok ca K G ps v a
  sl : σ.length = env.length
/-- what a step leaves: data grow; what others may change stands; new cells were new -/
structure Gr (ps : List Addr) (G R : Hp) (ps' : List Addr) (G' R' : Hp) : Prop where
  ex : Ex G G'
  oth : ∀ q o, q ∉ ps → R q = some o → R' q = some o
  pre : ∀ (k : Nat) (p : Addr), ps[k]? = some p → ps'[k]? = some p
  new : ∀ p, p ∈ ps' → p ∉ ps → R p = none
theorem Gr.refl (ps : List Addr) (G R : Hp) : Gr ps G R ps G R := ⟨Ex.refl G, fun _ _ _ h => h, fun _ _ h => h, fun _ h n => absurd h n⟩
theorem mem_of_pre {ps ps' : List Addr} (h : ∀ (k : Nat) (p : Addr), ps[k]? = some p → ps'[k]? = some p) {q : Addr} (m : q ∈ ps) : q ∈ ps' := by
  obtain ⟨k, hk⟩ := List.mem_iff_getElem?.mp m
  exact List.mem_iff_getElem?.mpr ⟨k, h k q hk⟩
theorem Gr.trans {ps ps1 ps2 : List Addr} {G G1 G2 R R1 R2 : Hp} (a : Gr ps G R ps1 G1 R1) (b : Gr ps1 G1 R1 ps2 G2 R2) : Gr ps G R ps2 G2 R2 where
  ex := a.ex.trans b.ex
  oth := fun q o n h => b.oth q o (fun m => by
    have z := a.new q m n
    rw [h] at z
    cases z) (a.oth q o n h)
  pre := fun k p h => b.pre k p (a.pre k p h)
  new := fun p m n => by
    by_cases m1 : p ∈ ps1
    · exact a.new p m1 n
    · have z := b.new p m m1
      cases q : R p with
      | none => rfl
      | some o =>
        rw [a.oth p o n q] at z
        cases z
theorem Gr.data {ps : List Addr} {G G' R : Hp} (e : Ex G G') : Gr ps G R ps G' R := ⟨e, fun _ _ _ h => h, fun _ _ h => h, fun _ h n => absurd h n⟩

section
variable {ca : Str → Addr} {K : PySem.W.Frag} {env : En} {cs : Cells} {ps : List Addr} {σ : L2.St} {G R H : Hp}
theorem Rep.there (r : Rep ca K env cs ps σ G R H) {k : Nat} {p : Addr} (h : ps[k]? = some p) : ∃ o, H p = some o := by
  have hk : k < cs.length := by
    rw [← r.len]
    exact (List.getElem?_eq_some_iff.mp h).1
  cases e : cs[k] with
  | none =>
    obtain ⟨o, q⟩ := r.dead k p h (by rw [List.getElem?_eq_getElem hk, e])
    exact ⟨o, r.wd.g _ _ q⟩
  | some ds =>
    obtain ⟨vs, q, _⟩ := r.cell k p ds h (by rw [List.getElem?_eq_getElem hk, e])
    exact ⟨_, r.wd.r _ _ q⟩
theorem Rep.notin (r : Rep ca K env cs ps σ G R H) {p : Addr} (h : H p = none) : p ∉ ps := fun m => by
  obtain ⟨k, hk⟩ := List.mem_iff_getElem?.mp m
  obtain ⟨o, q⟩ := r.there hk
  rw [h] at q
  cases q
theorem Rep.grow {G' H' : Hp} (r : Rep ca K env cs ps σ G R H) (e : Ex G G') (w : Wd G' R H') : Rep ca K env cs ps σ G' R H' where
  wd := w
  nd := r.nd
  len := r.len
  cell := fun k q ds h1 h2 => by
    obtain ⟨vs, a, b⟩ := r.cell k q ds h1 h2
    exact ⟨vs, a, b.mono e⟩
  dead := fun k q h1 h2 => by
    obtain ⟨o, a⟩ := r.dead k q h1 h2
    exact ⟨o, e _ _ a⟩
  sv := fun i a z => by
    obtain ⟨v, h1, h2⟩ := r.sv i a z
    exact ⟨v, h1, AVok.mono e (fun _ _ z => z) h2⟩
  sl := r.sl
/-- new data -/
theorem Rep.newG {p : Addr} {o : HO} (r : Rep ca K env cs ps σ G R H) (h : H p = none) : Rep ca K env cs ps σ (upd G p o) R (upd H p o) :=
  r.grow (Ex.new (r.wd.freshG h)) (r.wd.newG h)
/-- a cell is changed -/
theorem Rep.setC {k : Nat} {p : Addr} {vs vs' : List V} {ds' : List Da} (r : Rep ca K env cs ps σ G R H) (hp : ps[k]? = some p) (h : R p = some (.lst vs)) (hd : DnL ca K G vs' ds') :
    Rep ca K env (cs.set k (some ds')) ps σ G (upd R p (.lst vs')) (upd H p (.lst vs')) where
  wd := r.wd.setR h
  nd := r.nd
  len := by rw [r.len, List.length_set]
  cell := fun j q ds h1 h2 => by
    by_cases e : j = k
    · subst e
      rw [hp] at h1
      cases h1
      have hk : j < cs.length := by
        rw [← r.len]
        exact (List.getElem?_eq_some_iff.mp hp).1
      rw [List.getElem?_set_self hk] at h2
      cases h2
      exact ⟨vs', upd_same, hd⟩
    · rw [List.getElem?_set_ne (Ne.symm e)] at h2
      obtain ⟨us, a, b⟩ := r.cell j q ds h1 h2
      exact ⟨us, by rw [upd_ne (fun z => e (L2.nd_ix r.nd h1 (by rw [z]; exact hp)))]; exact a, b⟩
  dead := fun j q h1 h2 => by
    by_cases e : j = k
    · subst e
      have hk : j < cs.length := by
        rw [← r.len]
        exact (List.getElem?_eq_some_iff.mp hp).1
      rw [List.getElem?_set_self hk] at h2
      cases h2
    · rw [List.getElem?_set_ne (Ne.symm e)] at h2
      exact r.dead j q h1 h2
  sv := r.sv
  sl := r.sl
theorem Gr.setC {k : Nat} {p : Addr} {o : HO} (hp : ps[k]? = some p) : Gr ps G R ps G (upd R p o) :=
  ⟨Ex.refl G, fun q u n h => by rw [upd_ne (fun z => n (by rw [z]; exact List.mem_iff_getElem?.mpr ⟨k, hp⟩))]; exact h, fun _ _ z => z, fun _ h n => absurd h n⟩
/-- a slot is set -/
theorem Rep.setE {i : Nat} {v : V} {a : AV} (r : Rep ca K env cs ps σ G R H) (h : AVok ca K G ps v a) (hi : i < env.length) : Rep ca K (env.set i (some a)) cs ps (σ.set i (some v)) G R H where
  wd := r.wd
  nd := r.nd
  len := r.len
  cell := r.cell
  dead := r.dead
  sv := fun j b e => by
    by_cases z : j = i
    · subst z
      rw [List.getElem?_set_self hi] at e
      cases e
      exact ⟨v, List.getElem?_set_self (by rw [r.sl]; exact hi), h⟩
    · rw [List.getElem?_set_ne (Ne.symm z)] at e
      obtain ⟨u, h1, h2⟩ := r.sv j b e
      exact ⟨u, by rw [List.getElem?_set_ne (Ne.symm z)]; exact h1, h2⟩
  sl := by rw [List.length_set, List.length_set, r.sl]
/-- a new cell -/
theorem Rep.newC {p : Addr} {vs : List V} {ds : List Da} (r : Rep ca K env cs ps σ G R H) (h : H p = none) (hd : DnL ca K G vs ds) : Rep ca K env (cs ++ [some ds]) (ps ++ [p]) σ G (upd R p (.lst vs)) (upd H p (.lst vs)) where
  wd := r.wd.newR h
  nd := by
    rw [List.nodup_append]
    refine ⟨r.nd, by simp, fun a ha b hb => ?_⟩
    have e : b = p := by simpa using hb
    subst e
    rintro rfl
    exact r.notin h ha
  len := by simp [r.len]
  cell := fun j q es h1 h2 => by
    by_cases hj : j < ps.length
    · rw [List.getElem?_append_left hj] at h1
      rw [List.getElem?_append_left (by rw [← r.len]; exact hj)] at h2
      obtain ⟨us, a, b⟩ := r.cell j q es h1 h2
      exact ⟨us, by rw [upd_ne (fun z => r.notin h (by rw [← z]; exact List.mem_iff_getElem?.mpr ⟨j, h1⟩))]; exact a, b⟩
    · have hj' : j = ps.length := by
        have z := (List.getElem?_eq_some_iff.mp h1).1
        rw [List.length_append, List.length_singleton] at z
        omega
      subst hj'
      rw [List.getElem?_append_right (Nat.le_refl _), Nat.sub_self] at h1
      rw [r.len, List.getElem?_append_right (Nat.le_refl _), Nat.sub_self] at h2
      cases h1
      cases h2
      exact ⟨vs, upd_same, hd⟩
  dead := fun j q h1 h2 => by
    by_cases hj : j < ps.length
    · rw [List.getElem?_append_left hj] at h1
      rw [List.getElem?_append_left (by rw [← r.len]; exact hj)] at h2
      exact r.dead j q h1 h2
    · have hj' : j = ps.length := by
        have z := (List.getElem?_eq_some_iff.mp h1).1
        rw [List.length_append, List.length_singleton] at z
        omega
      subst hj'
      rw [r.len, List.getElem?_append_right (Nat.le_refl _), Nat.sub_self] at h2
      cases h2
  sv := fun i a z => by
    obtain ⟨v, h1, h2⟩ := r.sv i a z
    refine ⟨v, h1, AVok.mono (Ex.refl G) (fun k q z => ?_) h2⟩
    rw [List.getElem?_append_left (List.getElem?_eq_some_iff.mp z).1]
    exact z
  sl := r.sl
theorem Gr.newC {p : Addr} {o : HO} (r : Rep ca K env cs ps σ G R H) (h : H p = none) : Gr ps G R (ps ++ [p]) G (upd R p o) :=
  ⟨Ex.refl G, fun q u n e => by
    rw [upd_ne (fun z => by
      have y := r.wd.freshR h
      rw [← z, e] at y
      cases y)]
    exact e, fun k q z => by
    rw [List.getElem?_append_left (List.getElem?_eq_some_iff.mp z).1]
    exact z, fun q m n => by
    rcases List.mem_append.mp m with m | m
    · exact absurd m n
    · have e : q = p := by simpa using m
      rw [e]
      exact r.wd.freshR h⟩
/-- what the cell k was is data from now on -/
def thaw (k : Nat) (d : Da) : Option AV → Option AV
  | some (.ow j) => if j = k then some (.im d) else some (.ow j)
  | a => a
theorem Rep.frz {k : Nat} {p : Addr} {ds : List Da} (r : Rep ca K env cs ps σ G R H) (hp : ps[k]? = some p) (hc : cs[k]? = some (some ds)) :
    ∃ vs, Rep ca K (env.map (thaw k (.lst ds))) (cs.set k none) ps σ (upd G p (.lst vs)) (cut R p) H ∧ Gr ps G R ps (upd G p (.lst vs)) (cut R p) ∧ Dn ca K (upd G p (.lst vs)) (.ref p) (.lst ds) := by
  obtain ⟨vs, hR, hd⟩ := r.cell k p ds hp hc
  have hn := r.wd.noG hR
  have ex : Ex G (upd G p (.lst vs)) := Ex.new hn
  have hl : Dn ca K (upd G p (.lst vs)) (.ref p) (.lst ds) := .lst upd_same (hd.mono ex)
  have hk : k < cs.length := (List.getElem?_eq_some_iff.mp hc).1
  refine ⟨vs, { wd := r.wd.freeze hR, nd := r.nd, len := by rw [r.len, List.length_set], cell := fun j q es h1 h2 => ?_, dead := fun j q h1 h2 => ?_, sv := fun i a z => ?_, sl := by rw [List.length_map, r.sl] }, ⟨ex, fun q o n e => ?_, fun _ _ z => z, fun _ h n => absurd h n⟩, hl⟩
  · by_cases e : j = k
    · subst e
      rw [List.getElem?_set_self hk] at h2
      cases h2
    · rw [List.getElem?_set_ne (Ne.symm e)] at h2
      obtain ⟨us, a, b⟩ := r.cell j q es h1 h2
      exact ⟨us, by rw [cut_ne (fun z => e (L2.nd_ix r.nd h1 (by rw [z]; exact hp)))]; exact a, b.mono ex⟩
  · by_cases e : j = k
    · subst e
      rw [hp] at h1
      cases h1
      exact ⟨_, upd_same⟩
    · rw [List.getElem?_set_ne (Ne.symm e)] at h2
      obtain ⟨o, a⟩ := r.dead j q h1 h2
      exact ⟨o, ex _ _ a⟩
  · rw [List.getElem?_map] at z
    cases e : env[i]? with
    | none =>
      rw [e] at z
      cases z
    | some b =>
      rw [e] at z
      have z2 : thaw k (.lst ds) b = some a := Option.some.inj z
      cases b with
      | none => cases z2
      | some c =>
        obtain ⟨v, h1, h2⟩ := r.sv i c e
        refine ⟨v, h1, ?_⟩
        cases c with
        | im d =>
          have z3 : a = .im d := (Option.some.inj z2).symm
          subst z3
          exact Dn.mono ex h2
        | ow j =>
          have z3 : (if j = k then some (AV.im (.lst ds)) else some (AV.ow j)) = some a := z2
          by_cases ej : j = k
          · rw [if_pos ej] at z3
            have z4 := (Option.some.inj z3).symm
            subst z4
            obtain ⟨p', hp', ev⟩ := h2
            rw [ej, hp] at hp'
            cases hp'
            rw [ev]
            exact hl
          · rw [if_neg ej] at z3
            have z4 := (Option.some.inj z3).symm
            subst z4
            exact h2
  · rw [cut_ne (fun z => n (by rw [z]; exact List.mem_iff_getElem?.mpr ⟨k, hp⟩))]
    exact e
end
end Al
namespace Al
open PySem PySem.Spec PyProof.Rows L2

theorem _root_.L2.PE.imp {X : Cx} {e : Expr} {t t' : TE} (h : PE X e t) (i : ∀ σ H Q, t' σ H Q → t σ H Q) : PE X e t' := ⟨fun pins s σ H Q I q => h.run pins s σ H Q I (i σ H Q q)⟩
theorem _root_.L2.PT.imp {X : Cx} {e : Expr} {t t' : TT} (h : PT X e t) (i : ∀ σ H Q, t' σ H Q → t σ H Q) : PT X e t' := ⟨fun pins s σ H Q I q => h.run pins s σ H Q I (i σ H Q q)⟩
theorem _root_.L2.PW.imp {X : Cx} {e : Expr} {t t' : TT} (h : PW X e t) (i : ∀ σ H Q, t' σ H Q → t σ H Q) : PW X e t' := ⟨fun wh pins s σ H Q I q => h.run wh pins s σ H Q I (i σ H Q q)⟩
theorem _root_.L2.PA.imp {X : Cx} {es : List Expr} {t t' : TA} (h : PA X es t) (i : ∀ σ H Q, t' σ H Q → t σ H Q) : PA X es t' := ⟨fun pos pins s σ H Q I q => h.run pos pins s σ H Q I (i σ H Q q)⟩
theorem _root_.L2.PS.imp {X : Cx} {st : Stmt} {t t' : TS} (h : PS X st t) (i : ∀ D σ H, t' D σ H → t D σ H) : PS X st t' := ⟨fun pins s σ H D I q => h.run pins s σ H D I (i D σ H q)⟩
theorem _root_.L2.PSs.imp {X : Cx} {st : List Stmt} {t t' : TS} (h : PSs X st t) (i : ∀ D σ H, t' D σ H → t D σ H) : PSs X st t' := ⟨fun pins s σ H D I q => h.run pins s σ H D I (i D σ H q)⟩

/-- what stays fixed through a body: the classes' addresses, what an exception is to come to -/
structure Ct where
  ca : Str → Addr
  W : Value → Option Addr → L2.St → Hp → Prop
  kx : Str → List Str → List Da → En → Cells → Prop
def ExD (ca : Str → Addr) (K : PySem.W.Frag) (G H : Hp) (dd : Option Addr) (ks : List Str) (ds : List Da) : Prop :=
  (dd = none ∧ ks = [] ∧ ds = []) ∨ ∃ d fs, dd = some d ∧ H d = some (.xd fs) ∧ fs.map (·.1) = ks ∧ DnL ca K G (fs.map (·.2)) ds
def PostX (C : Ct) (K : PySem.W.Frag) (ps : List Addr) (G R : Hp) : Prop := ∀ c ks ds env cs ps' dd σ G' R' H', C.kx c ks ds env cs → Gr ps G R ps' G' R' → Rep C.ca K env cs ps' σ G' R' H' → ExD C.ca K G' H' dd ks ds → C.W (.ref (C.ca c)) dd σ H'
theorem PostX.on {C : Ct} {K : PySem.W.Frag} {ps ps' : List Addr} {G R G' R' : Hp} (p : PostX C K ps G R) (g : Gr ps G R ps' G' R') : PostX C K ps' G' R' :=
  fun c ks ds env cs ps2 dd σ G2 R2 H2 h g2 r e => p c ks ds env cs ps2 dd σ G2 R2 H2 h (g.trans g2) r e

abbrev KE := AV → Cells → Prop
def Post (ca : Str → Addr) (K : PySem.W.Frag) (env : En) (ps : List Addr) (σ : L2.St) (G R : Hp) (k : KE) (Q : VK) : Prop := ∀ a cs' w G' R' H', k a cs' → Gr ps G R ps G' R' → Rep ca K env cs' ps σ G' R' H' → AVok ca K G' ps w a → Q w H'
theorem Post.on {ca : Str → Addr} {K : PySem.W.Frag} {env : En} {ps : List Addr} {σ : L2.St} {G R G1 R1 : Hp} {k : KE} {Q : VK} (p : Post ca K env ps σ G R k Q) (g : Gr ps G R ps G1 R1) : Post ca K env ps σ G1 R1 k Q :=
  fun a cs' w G' R' H' h g2 r e => p a cs' w G' R' H' h (g.trans g2) r e
def tX (C : Ct) (K : PySem.W.Frag) (env : En) (cs : Cells) (k : KE) : TE := fun σ H Q => ∃ ps G R, Rep C.ca K env cs ps σ G R H ∧ PostX C K ps G R ∧ Post C.ca K env ps σ G R k Q
/-- the expression comes to what k takes -/
def AX (X : Cx) (C : Ct) (e : Expr) (env : En) (cs : Cells) (k : KE) : Prop := PE X e (tX C X.K env cs k)
abbrev KT := Bool → Cells → Prop
def tT (C : Ct) (K : PySem.W.Frag) (env : En) (cs : Cells) (k : KT) : TT := fun σ H Q => ∃ ps G R, Rep C.ca K env cs ps σ G R H ∧ PostX C K ps G R ∧ ∀ b cs' G' R' H', k b cs' → Gr ps G R ps G' R' → Rep C.ca K env cs' ps σ G' R' H' → Q b H'
def AT (X : Cx) (C : Ct) (e : Expr) (env : En) (cs : Cells) (k : KT) : Prop := PT X e (tT C X.K env cs k)
def AW (X : Cx) (C : Ct) (e : Expr) (env : En) (cs : Cells) (k : KT) : Prop := PW X e (tT C X.K env cs k)
def AVokL (ca : Str → Addr) (K : PySem.W.Frag) (G : Hp) (ps : List Addr) : List V → List AV → Prop
  | [], [] => True
  | w :: ws, a :: as => AVok ca K G ps w a ∧ AVokL ca K G ps ws as
  | _, _ => False
theorem AVokL.mono {ca : Str → Addr} {K : PySem.W.Frag} {G G' : Hp} {ps : List Addr} (e : Ex G G') : ∀ {ws : List V} {as : List AV}, AVokL ca K G ps ws as → AVokL ca K G' ps ws as
  | [], [], _ => trivial
  | w :: ws, a :: as, h => ⟨h.1.mono e (fun _ _ z => z), AVokL.mono e h.2⟩
  | [], _ :: _, h => h.elim
  | _ :: _, [], h => h.elim
theorem AVokL.ims {ca : Str → Addr} {K : PySem.W.Frag} {G : Hp} {ps : List Addr} : ∀ {ws : List V} {ds : List Da}, AVokL ca K G ps ws (ds.map AV.im) → DnL ca K G ws ds
  | [], [], _ => .nil
  | w :: ws, d :: ds, h => .cons h.1 (AVokL.ims h.2)
  | [], _ :: _, h => h.elim
  | _ :: _, [], h => h.elim
abbrev KA := List AV → Cells → Prop
def tA (C : Ct) (K : PySem.W.Frag) (env : En) (cs : Cells) (k : KA) : TA := fun σ H Q => ∃ ps G R, Rep C.ca K env cs ps σ G R H ∧ PostX C K ps G R ∧ ∀ as cs' ws G' R' H', k as cs' → Gr ps G R ps G' R' → Rep C.ca K env cs' ps σ G' R' H' → AVokL C.ca K G' ps ws as → Q ws H'
def AA (X : Cx) (C : Ct) (es : List Expr) (env : En) (cs : Cells) (k : KA) : Prop := PA X es (tA C X.K env cs k)

section
variable {X : Cx} {C : Ct} {env : En} {cs : Cells} {k : KE} {pos : Pos} {e a b c : Expr} {es : List Expr}

/-- one expression behind another one: the second's reading -/
def tX2 (X : Cx) (C : Ct) (b : Expr) (env : En) (k2 : AV → KE) : TE := fun σ H Q => ∃ x c1, AX X C b env c1 (k2 x) ∧ tX C X.K env c1 (k2 x) σ H Q
theorem pe_x2 {k2 : AV → KE} : PE X b (tX2 X C b env k2) := ⟨fun pins s σ H Q I ⟨x, c1, h, t⟩ => h.run pins s σ H Q I t⟩

/-! ### names, constants -/
theorem ax_var (i : Nat) {x : Str} {v : AV} (hN : X.N[i]? = some x) (hv : Vis X.env.scope x) (he : env[i]? = some (some v)) (h : k v cs) (hd : (x == ("__debug__" : Str)) = false := by decide) (hcd : (x == ("__classdict__" : Str)) = false := by decide) :
    AX X C (.Name x pos) env cs k := (pe_var hN hv hd hcd).imp fun σ H Q ⟨ps, G, R, r, px, q⟩ => by
  obtain ⟨w, h1, h2⟩ := r.sv i v he
  exact ⟨w, h1, q v cs w G R H h (Gr.refl ps G R) r h2⟩
theorem ax_int {i : Int} {j : Nat} (h : k (.im (.int i)) cs) : AX X C (.Constant (.int i) j pos) env cs k := pe_int.imp fun σ H Q ⟨ps, G, R, r, px, q⟩ => q _ cs _ G R H h (Gr.refl ps G R) r (.int i)
theorem ax_str {i : Str} {j : Nat} (h : k (.im (.str i)) cs) : AX X C (.Constant (.str i) j pos) env cs k := pe_str.imp fun σ H Q ⟨ps, G, R, r, px, q⟩ => q _ cs _ G R H h (Gr.refl ps G R) r (.str i)
theorem ax_bl {i : Bool} {j : Nat} (h : k (.im (.bl i)) cs) : AX X C (.Constant (.bool i) j pos) env cs k := pe_bl.imp fun σ H Q ⟨ps, G, R, r, px, q⟩ => q _ cs _ G R H h (Gr.refl ps G R) r (.bl i)
theorem ax_non {j : Nat} (h : k (.im .non) cs) : AX X C (.Constant .none j pos) env cs k := pe_non.imp fun σ H Q ⟨ps, G, R, r, px, q⟩ => q _ cs _ G R H h (Gr.refl ps G R) r .non
/-- a module's constant that is an int -/
theorem ax_gint {x : Str} {i : Int} {t : Tok} (hg : Gl X x) (hm : X.mg x = some (.int i t)) (h : k (.im (.int i)) cs) (hd : (x == ("__debug__" : Str)) = false := by decide) : AX X C (.Name x pos) env cs k :=
  (pe_glob hg hm (show RelV (.int i) _ from ⟨t, rfl⟩) hd).imp fun σ H Q ⟨ps, G, R, r, px, q⟩ => q _ cs _ G R H h (Gr.refl ps G R) r (.int i)

/-! ### operators by what they do to data -/
abbrev Sem2 := AV → AV → Cells → KE → Prop
def OpS (ca : Str → Addr) (K : PySem.W.Frag) (r : R2) (f : Sem2) : Prop := ∀ (env : En) (cs : Cells) (ps : List Addr) (σ : L2.St) (G R H : Hp) (x y : AV) (v u : V) (k : KE) (Q : VK), Rep ca K env cs ps σ G R H → AVok ca K G ps v x → AVok ca K G ps u y → f x y cs k → Post ca K env ps σ G R k Q → r v u H Q
theorem ax_bin {op : Operator} {r : R2} {f : Sem2} (ho : OpR X (binaryOp op) r) (hs : OpS C.ca X.K r f) (h : AX X C a env cs fun x c1 => AX X C b env c1 fun y c2 => f x y c2 k) : AX X C (.BinOp a op b pos) env cs k :=
  (pe_op ho h (pe_x2 (X := X) (C := C) (env := env) (k2 := fun x y c2 => f x y c2 k))).imp fun σ H Q ⟨ps, G, R, r, px, q⟩ =>
    ⟨ps, G, R, r, px, fun x c1 v G1 R1 H1 hk g1 r1 o1 => ⟨x, c1, hk, ps, G1, R1, r1, px.on g1, fun y c2 u G2 R2 H2 hf g2 r2 o2 => hs _ _ _ _ _ _ _ x y _ _ k Q r2 (o1.mono g2.ex fun _ _ z => z) o2 hf (q.on (g1.trans g2))⟩⟩
theorem ax_cmp {op : CmpOp} {r : R2} {f : Sem2} (ho : OpR X (compareOp op) r) (hs : OpS C.ca X.K r f) (hm : behindInMarks op b = false) (h : AX X C a env cs fun x c1 => AX X C b env c1 fun y c2 => f x y c2 k) : AX X C (.Compare a [op] [b] pos) env cs k :=
  (pe_cmpR ho h (pe_x2 (X := X) (C := C) (env := env) (k2 := fun x y c2 => f x y c2 k)) hm).imp fun σ H Q ⟨ps, G, R, r, px, q⟩ =>
    ⟨ps, G, R, r, px, fun x c1 v G1 R1 H1 hk g1 r1 o1 => ⟨x, c1, hk, ps, G1, R1, r1, px.on g1, fun y c2 u G2 R2 H2 hf g2 r2 o2 => hs _ _ _ _ _ _ _ x y _ _ k Q r2 (o1.mono g2.ex fun _ _ z => z) o2 hf (q.on (g1.trans g2))⟩⟩
theorem ax_sub {r : R2} {f : Sem2} (ho : IxR X r) (hs : OpS C.ca X.K r f) (h : AX X C a env cs fun x c1 => AX X C b env c1 fun y c2 => f x y c2 k) (hp : PlainIx b) : AX X C (.Subscript a b pos) env cs k :=
  (pe_ix ho h (pe_x2 (X := X) (C := C) (env := env) (k2 := fun x y c2 => f x y c2 k)) hp).imp fun σ H Q ⟨ps, G, R, r, px, q⟩ =>
    ⟨ps, G, R, r, px, fun x c1 v G1 R1 H1 hk g1 r1 o1 => ⟨x, c1, hk, ps, G1, R1, r1, px.on g1, fun y c2 u G2 R2 H2 hf g2 r2 o2 => hs _ _ _ _ _ _ _ x y _ _ k Q r2 (o1.mono g2.ex fun _ _ z => z) o2 hf (q.on (g1.trans g2))⟩⟩
theorem ax_un {op : UnaryOp} {g : Int → Int} (ho : UnR X (unaryOp op) (rU fun i => .int (g i))) (h : AX X C a env cs fun x c1 => ∃ i, x = .im (.int i) ∧ k (.im (.int (g i))) c1) : AX X C (.UnaryOp op a pos) env cs k :=
  (pe_un ho h).imp fun σ H Q ⟨ps, G, R, r, px, q⟩ =>
    ⟨ps, G, R, r, px, fun x c1 v G1 R1 H1 ⟨i, ex, hk⟩ g1 r1 o1 => by
      subst ex
      exact ⟨i, Dn.int_inv o1, q _ c1 _ G1 R1 H1 hk g1 r1 (.int _)⟩⟩
theorem Rep.same {ca : Str → Addr} {K : PySem.W.Frag} {env : En} {cs : Cells} {ps : List Addr} {σ : L2.St} {G R H : Hp} {k : KE} {Q : VK} {a : AV} {w : V} (r : Rep ca K env cs ps σ G R H) (q : Post ca K env ps σ G R k Q) (h : k a cs) (o : AVok ca K G ps w a) : Q w H := q a cs w G R H h (Gr.refl ps G R) r o
/-- a new tuple -/
theorem Rep.tup {ca : Str → Addr} {K : PySem.W.Frag} {env : En} {cs : Cells} {ps : List Addr} {σ : L2.St} {G R H : Hp} {k : KE} {Q : VK} {ds : List Da} {xs : List V} {p : Addr} (r : Rep ca K env cs ps σ G R H) (q : Post ca K env ps σ G R k Q) (h : k (.im (.tup ds)) cs) (o : DnL ca K G xs ds) (hp : H p = none) : Q (.ref p) (upd H p (.tup xs)) :=
  have e := Ex.new (o := HO.tup xs) (r.wd.freshG hp)
  q _ cs _ _ R _ h (Gr.data e) (r.newG hp) (.tup (.inl (.inl upd_same)) (o.mono e))
theorem Rep.lst {ca : Str → Addr} {K : PySem.W.Frag} {env : En} {cs : Cells} {ps : List Addr} {σ : L2.St} {G R H : Hp} {k : KE} {Q : VK} {ds : List Da} {xs : List V} {p : Addr} (r : Rep ca K env cs ps σ G R H) (q : Post ca K env ps σ G R k Q) (h : k (.im (.lst ds)) cs) (o : DnL ca K G xs ds) (hp : H p = none) : Q (.ref p) (upd H p (.lst xs)) :=
  have e := Ex.new (o := HO.lst xs) (r.wd.freshG hp)
  q _ cs _ _ R _ h (Gr.data e) (r.newG hp) (.lst upd_same (o.mono e))
theorem Dn.lst_inv {ca : Str → Addr} {K : PySem.W.Frag} {G : Hp} {v : V} {ds : List Da} (h : Dn ca K G v (.lst ds)) : ∃ p xs, v = .ref p ∧ G p = some (.lst xs) ∧ DnL ca K G xs ds := by
  cases h with
  | lst a b => exact ⟨_, _, rfl, a, b⟩
theorem Dn.tup_inv {ca : Str → Addr} {K : PySem.W.Frag} {G : Hp} {v : V} {ds : List Da} (h : Dn ca K G v (.tup ds)) : ∃ p xs, v = .ref p ∧ SqT K G p xs ∧ DnL ca K G xs ds := by
  cases h with
  | tup a b => exact ⟨_, _, rfl, a, b⟩
theorem Dn.scr_inv {ca : Str → Addr} {K : PySem.W.Frag} {G : Hp} {v : V} {ns : List Int} (h : Dn ca K G v (.scr ns)) : ∃ p, v = .ref p ∧ SqL K G p (ns.map V.int) := by
  cases h with
  | scr a => exact ⟨_, rfl, a⟩
theorem Wd.sqt {G R H : Hp} (w : Wd G R H) {K : PySem.W.Frag} {p : Addr} {xs : List V} (h : SqT K G p xs) : SqT K H p xs := Ex.sqt w.g h
theorem Wd.sql {G R H : Hp} (w : Wd G R H) {K : PySem.W.Frag} {p : Addr} {xs : List V} (h : SqL K G p xs) : SqL K H p xs := Ex.sql w.g h

/-- + : ints, texts, tuples, lists -/
def sAdd : Sem2 := fun x y cs k => match x, y with
  | .im (.int i), .im (.int j) => k (.im (.int (i + j))) cs
  | .im (.str i), .im (.str j) => i.length + j.length ≤ 16000000 ∧ k (.im (.str (i ++ j))) cs
  | .im (.tup i), .im (.tup j) => i.length + j.length ≤ 16000000 ∧ k (.im (.tup (i ++ j))) cs
  | .im (.lst i), .im (.lst j) => i.length + j.length ≤ 16000000 ∧ k (.im (.lst (i ++ j))) cs
  | .ow n, .im (.lst j) => ∃ i, cs[n]? = some (some i) ∧ i.length + j.length ≤ 16000000 ∧ k (.im (.lst (i ++ j))) cs
  | _, _ => False
def rAddA (K : PySem.W.Frag) : R2 := fun x y H Q => (((rI0 fun i j => .int (i + j)) x y H Q ∨ (∃ i j, x = .str i ∧ y = .str j ∧ i.length + j.length ≤ sizeLine ∧ Q (.str (i ++ j)) H)) ∨ rCatA K x y H Q) ∨ rCat x y H Q
theorem op_addA : OpR X (binaryOp .Add) (rAddA X.K) := OpR.or (OpR.or (OpR.or op_add op_add_str) op_catA) op_cat
theorem sz_of {n : Nat} (h : n ≤ 16000000) : n ≤ sizeLine := Nat.le_trans h (by decide)
theorem sz_lt {n : Nat} (h : n < 16000000) : n < sizeLine := Nat.lt_of_lt_of_le h (by decide)
theorem os_add {ca : Str → Addr} {K : PySem.W.Frag} : OpS ca K (rAddA K) sAdd := by
  intro env cs ps σ G R H x y v u k Q r ox oy h q
  unfold sAdd at h
  split at h
  · exact .inl (.inl (.inl ⟨_, _, Dn.int_inv ox, Dn.int_inv oy, r.same q h (.int _)⟩))
  · exact .inl (.inl (.inr ⟨_, _, Dn.str_inv ox, Dn.str_inv oy, sz_of h.1, r.same q h.2 (.str _)⟩))
  · obtain ⟨p, xs, e1, t1, l1⟩ := Dn.tup_inv ox
    obtain ⟨p2, ys, e2, t2, l2⟩ := Dn.tup_inv oy
    obtain ⟨h1, h2⟩ := h
    rename_i i j
    refine .inl (.inr ⟨p, p2, xs, ys, e1, e2, r.wd.sqt t1, r.wd.sqt t2, sz_of (by rw [l1.length, l2.length]; exact h1), fun e => ?_, fun n e => ?_, fun n1 n2 z hz => r.tup q h2 (l1.append l2) hz⟩)
    · subst e
      cases l1
      exact r.same q h2 (.tup t2 l2)
    · subst e
      cases l2
      rw [List.append_nil] at h2
      exact r.same q h2 (.tup t1 l1)
  · obtain ⟨p, xs, e1, t1, l1⟩ := Dn.lst_inv ox
    obtain ⟨p2, ys, e2, t2, l2⟩ := Dn.lst_inv oy
    obtain ⟨h1, h2⟩ := h
    exact .inr ⟨p, p2, xs, ys, e1, e2, r.wd.g _ _ t1, r.wd.g _ _ t2, sz_of (by rw [l1.length, l2.length]; exact h1), fun z hz => r.lst q h2 (l1.append l2) hz⟩
  · obtain ⟨i, hc, h1, h2⟩ := h
    obtain ⟨p, hp, e1⟩ := ox
    obtain ⟨xs, t1, l1⟩ := r.cell _ p i hp hc
    obtain ⟨p2, ys, e2, t2, l2⟩ := Dn.lst_inv oy
    exact .inr ⟨p, p2, xs, ys, e1, e2, r.wd.r _ _ t1, r.wd.g _ _ t2, sz_of (by rw [l1.length, l2.length]; exact h1), fun z hz => r.lst q h2 (l1.append l2) hz⟩
  · exact h.elim
theorem ax_add (h : AX X C a env cs fun x c1 => AX X C b env c1 fun y c2 => sAdd x y c2 k) : AX X C (.BinOp a .Add b pos) env cs k := ax_bin op_addA os_add h
def sInt (Cd : Int → Int → Prop) (g : Int → Int → Da) : Sem2 := fun x y cs k => match x, y with
  | .im (.int i), .im (.int j) => Cd i j ∧ k (.im (g i j)) cs
  | _, _ => False
theorem os_int {ca : Str → Addr} {K : PySem.W.Frag} {Cd : Int → Int → Prop} {g : Int → Int → Int} : OpS ca K (rI Cd fun i j => .int (g i j)) (sInt Cd fun i j => .int (g i j)) := by
  intro env cs ps σ G R H x y v u k Q r ox oy h q
  unfold sInt at h
  split at h
  · exact ⟨_, _, Dn.int_inv ox, Dn.int_inv oy, h.1, r.same q h.2 (.int _)⟩
  · exact h.elim
theorem os_int0 {ca : Str → Addr} {K : PySem.W.Frag} {g : Int → Int → Int} : OpS ca K (rI0 fun i j => .int (g i j)) (sInt (fun _ _ => True) fun i j => .int (g i j)) := by
  intro env cs ps σ G R H x y v u k Q r ox oy h q
  unfold sInt at h
  split at h
  · exact ⟨_, _, Dn.int_inv ox, Dn.int_inv oy, r.same q h.2 (.int _)⟩
  · exact h.elim
theorem os_intB {ca : Str → Addr} {K : PySem.W.Frag} {g : Int → Int → Bool} : OpS ca K (rI0 fun i j => .bl (g i j)) (sInt (fun _ _ => True) fun i j => .bl (g i j)) := by
  intro env cs ps σ G R H x y v u k Q r ox oy h q
  unfold sInt at h
  split at h
  · exact ⟨_, _, Dn.int_inv ox, Dn.int_inv oy, r.same q h.2 (.bl _)⟩
  · exact h.elim
theorem ax_minus (h : AX X C a env cs fun x c1 => AX X C b env c1 fun y c2 => sInt (fun _ _ => True) (fun i j => .int (i - j)) x y c2 k) : AX X C (.BinOp a .Sub b pos) env cs k := ax_bin op_sub os_int0 h
theorem ax_mod (h : AX X C a env cs fun x c1 => AX X C b env c1 fun y c2 => sInt (fun _ j => 0 < j) (fun i j => .int (i % j)) x y c2 k) : AX X C (.BinOp a .Mod b pos) env cs k := ax_bin op_mod os_int h
theorem ax_fdiv (h : AX X C a env cs fun x c1 => AX X C b env c1 fun y c2 => sInt CDiv (fun i j => .int (i / j)) x y c2 k) : AX X C (.BinOp a .FloorDiv b pos) env cs k := ax_bin op_fdiv os_int h
theorem ax_pow (h : AX X C a env cs fun x c1 => AX X C b env c1 fun y c2 => sInt CPow (fun i j => .int (i ^ j.toNat)) x y c2 k) : AX X C (.BinOp a .Pow b pos) env cs k := ax_bin op_pow os_int h
/-- * : ints, a tuple or a list and an int -/
def sMul : Sem2 := fun x y cs k => match x, y with
  | .im (.int i), .im (.int j) => CMul i j ∧ k (.im (.int (i * j))) cs
  | .im (.tup i), .im (.int j) => (i ≠ [] ∧ 2 ≤ j ∧ j ≤ 1000 ∧ i.length ≤ 1000) ∧ k (.im (.tup (List.replicate j.toNat i).flatten)) cs
  | .im (.lst i), .im (.int j) => (0 ≤ j ∧ j ≤ 1000 ∧ i.length ≤ 100) ∧ k (.im (.lst (List.replicate j.toNat i).flatten)) cs
  | _, _ => False
def rMulA (K : PySem.W.Frag) : R2 := fun x y H Q => ((rI CMul fun i j => .int (i * j)) x y H Q ∨ rRepT K x y H Q) ∨ rRep x y H Q
theorem op_mulA : OpR X (binaryOp .Mult) (rMulA X.K) := OpR.or (OpR.or op_mul op_repT) op_rep
theorem DnL.repl {ca : Str → Addr} {K : PySem.W.Frag} {G : Hp} {xs : List V} {ds : List Da} (h : DnL ca K G xs ds) : ∀ n : Nat, DnL ca K G (List.replicate n xs).flatten (List.replicate n ds).flatten
  | 0 => .nil
  | n + 1 => by
    rw [List.replicate_succ, List.replicate_succ, List.flatten_cons, List.flatten_cons]
    exact h.append (h.repl n)
theorem os_mul {ca : Str → Addr} {K : PySem.W.Frag} : OpS ca K (rMulA K) sMul := by
  intro env cs ps σ G R H x y v u k Q r ox oy h q
  unfold sMul at h
  split at h
  · exact .inl (.inl ⟨_, _, Dn.int_inv ox, Dn.int_inv oy, h.1, r.same q h.2 (.int _)⟩)
  · obtain ⟨p, xs, e1, t1, l1⟩ := Dn.tup_inv ox
    obtain ⟨⟨h1, h2, h3, h4⟩, h5⟩ := h
    refine .inl (.inr ⟨p, _, xs, e1, Dn.int_inv oy, r.wd.sqt t1, fun e => ?_, h2, h3, by rw [l1.length]; exact h4, fun z hz => r.tup q h5 (l1.repl _) hz⟩)
    subst e
    cases l1
    exact h1 rfl
  · obtain ⟨p, xs, e1, t1, l1⟩ := Dn.lst_inv ox
    obtain ⟨⟨h1, h2, h3⟩, h5⟩ := h
    rename_i i j
    refine .inr ⟨p, j, xs, e1, Dn.int_inv oy, r.wd.g _ _ t1, by omega, by omega, ?_, fun z hz => r.lst q h5 (l1.repl _) hz⟩
    rw [l1.length]
    refine Nat.le_trans (Nat.mul_le_mul h3 (show j.toNat ≤ 1000 by omega)) (by decide)
  · exact h.elim
theorem ax_mul (h : AX X C a env cs fun x c1 => AX X C b env c1 fun y c2 => sMul x y c2 k) : AX X C (.BinOp a .Mult b pos) env cs k := ax_bin op_mulA os_mul h
theorem ax_neg (h : AX X C a env cs fun x c1 => ∃ i, x = .im (.int i) ∧ k (.im (.int (-i))) c1) : AX X C (.UnaryOp .USub a pos) env cs k := ax_un un_neg h
/-! comparisons of ints, of texts -/
def sCmp (g : Int → Int → Bool) (gs : Str → Str → Bool) : Sem2 := fun x y cs k => match x, y with
  | .im (.int i), .im (.int j) => k (.im (.bl (g i j))) cs
  | .im (.str i), .im (.str j) => k (.im (.bl (gs i j))) cs
  | _, _ => False
theorem os_cmp {ca : Str → Addr} {K : PySem.W.Frag} {g : Int → Int → Bool} {gs : Str → Str → Bool} : OpS ca K (fun x y H Q => (rI0 fun i j => .bl (g i j)) x y H Q ∨ ∃ i j, x = .str i ∧ y = .str j ∧ Q (.bl (gs i j)) H) (sCmp g gs) := by
  intro env cs ps σ G R H x y v u k Q r ox oy h q
  unfold sCmp at h
  split at h
  · exact .inl ⟨_, _, Dn.int_inv ox, Dn.int_inv oy, r.same q h (.bl _)⟩
  · exact .inr ⟨_, _, Dn.str_inv ox, Dn.str_inv oy, r.same q h (.bl _)⟩
  · exact h.elim
def ltS (i j : Str) : Bool := decide (i.cps.toList < j.cps.toList)
abbrev sLt : Sem2 := sCmp (fun i j => decide (i < j)) ltS
abbrev sLe : Sem2 := sCmp (fun i j => decide (i ≤ j)) fun i j => !ltS j i
abbrev sGt : Sem2 := sCmp (fun i j => decide (j < i)) fun i j => ltS j i
abbrev sGe : Sem2 := sCmp (fun i j => decide (j ≤ i)) fun i j => !ltS i j
theorem op_ltA : OpR X (compareOp .Lt) (fun x y H Q => (rI0 fun i j => .bl (decide (i < j))) x y H Q ∨ ∃ i j, x = .str i ∧ y = .str j ∧ Q (.bl (ltS i j)) H) := OpR.or op_lt op_lt_str
theorem op_leA : OpR X (compareOp .LtE) (fun x y H Q => (rI0 fun i j => .bl (decide (i ≤ j))) x y H Q ∨ ∃ i j, x = .str i ∧ y = .str j ∧ Q (.bl (!ltS j i)) H) := OpR.or op_le op_le_str
theorem op_gtA : OpR X (compareOp .Gt) (fun x y H Q => (rI0 fun i j => .bl (decide (j < i))) x y H Q ∨ ∃ i j, x = .str i ∧ y = .str j ∧ Q (.bl (ltS j i)) H) := OpR.or op_gt op_gt_str
theorem op_geA : OpR X (compareOp .GtE) (fun x y H Q => (rI0 fun i j => .bl (decide (j ≤ i))) x y H Q ∨ ∃ i j, x = .str i ∧ y = .str j ∧ Q (.bl (!ltS i j)) H) := OpR.or op_ge op_ge_str
theorem ax_lt (h : AX X C a env cs fun x c1 => AX X C b env c1 fun y c2 => sLt x y c2 k) : AX X C (.Compare a [.Lt] [b] pos) env cs k := ax_cmp op_ltA os_cmp (nomark _) h
theorem ax_le (h : AX X C a env cs fun x c1 => AX X C b env c1 fun y c2 => sLe x y c2 k) : AX X C (.Compare a [.LtE] [b] pos) env cs k := ax_cmp op_leA os_cmp (nomark _) h
theorem ax_gt (h : AX X C a env cs fun x c1 => AX X C b env c1 fun y c2 => sGt x y c2 k) : AX X C (.Compare a [.Gt] [b] pos) env cs k := ax_cmp op_gtA os_cmp (nomark _) h
theorem ax_ge (h : AX X C a env cs fun x c1 => AX X C b env c1 fun y c2 => sGe x y c2 k) : AX X C (.Compare a [.GtE] [b] pos) env cs k := ax_cmp op_geA os_cmp (nomark _) h
end
end Al
namespace Al
open PySem PySem.Spec PyProof.Rows L2

section
variable {X : Cx} {C : Ct} {env : En} {cs : Cells} {k : KE} {kt : KT} {ka : KA} {pos : Pos} {e a b c : Expr} {es : List Expr}

/-! ### tests -/
def tT2 (X : Cx) (C : Ct) (b : Expr) (env : En) (k2 : Bool → KT) : TT := fun σ H Q => ∃ x c1, AT X C b env c1 (k2 x) ∧ tT C X.K env c1 (k2 x) σ H Q
theorem pt_t2 {k2 : Bool → KT} : PT X b (tT2 X C b env k2) := ⟨fun pins s σ H Q I ⟨x, c1, h, t⟩ => h.run pins s σ H Q I t⟩
/-- truth of a value -/
def truA : AV → Cells → (Bool → Prop) → Prop
  | .im .non, _, k => k false
  | .im (.bl b), _, k => k b
  | .im (.int i), _, k => k (i != 0)
  | .im (.str x), _, k => x.length ≤ 16000000 ∧ k ((x.length : Int) != 0)
  | .im (.tup l), _, k => k !l.isEmpty
  | .im (.lst l), _, k => k !l.isEmpty
  | .im (.scr l), _, k => k !l.isEmpty
  | .im (.dic ks l), _, k => k !ks.isEmpty
  | .ow j, cs, k => ∃ ds, cs[j]? = some (some ds) ∧ k !ds.isEmpty
  | _, _, _ => False
theorem DnL.empty {ca : Str → Addr} {K : PySem.W.Frag} {G : Hp} {xs : List V} {ds : List Da} (h : DnL ca K G xs ds) : xs.isEmpty = ds.isEmpty := by
  cases h <;> rfl
theorem tru_of {ca : Str → Addr} {K : PySem.W.Frag} {env : En} {cs : Cells} {ps : List Addr} {σ : L2.St} {G R H : Hp} {x : AV} {v : V} {k : Bool → Prop} (r : Rep ca K env cs ps σ G R H) (o : AVok ca K G ps v x) (h : truA x cs k) : ∃ b, TruV K v H b ∧ k b := by
  cases x with
  | im d =>
    cases d with
    | non =>
      cases o
      exact ⟨false, rfl, h⟩
    | bl b =>
      cases o
      exact ⟨b, rfl, h⟩
    | int i =>
      cases o
      exact ⟨_, rfl, h⟩
    | str z =>
      cases o
      exact ⟨_, ⟨sz_of h.1, rfl⟩, h.2⟩
    | tup l =>
      obtain ⟨p, xs, rfl, t, dl⟩ := Dn.tup_inv o
      exact ⟨_, .inr (.inl ⟨xs, r.wd.sqt t, rfl⟩), by rw [dl.empty]; exact h⟩
    | lst l =>
      obtain ⟨p, xs, rfl, t, dl⟩ := Dn.lst_inv o
      exact ⟨_, .inl ⟨xs, .inl (.inl (r.wd.g _ _ t)), rfl⟩, by rw [dl.empty]; exact h⟩
    | scr l =>
      obtain ⟨p, rfl, t⟩ := Dn.scr_inv o
      exact ⟨_, .inl ⟨_, r.wd.sql t, rfl⟩, by rw [List.isEmpty_map]; exact h⟩
    | dic ks l =>
      cases o with
      | dic hg e hl =>
        refine ⟨_, .inr (.inr ⟨_, r.wd.g _ _ hg, rfl⟩), ?_⟩
        rename_i kvs
        have e2 : kvs.isEmpty = ks.isEmpty := by rw [← e, List.isEmpty_map]
        rw [e2]
        exact h
    | _ => exact (show False from h).elim
  | ow j =>
    obtain ⟨p, hp, rfl⟩ := o
    obtain ⟨ds, hc, h⟩ := h
    obtain ⟨vs, hR, dl⟩ := r.cell j p ds hp hc
    exact ⟨_, .inl ⟨vs, .inl (.inl (r.wd.r _ _ hR)), rfl⟩, by rw [dl.empty]; exact h⟩
/-- an expression as a test, by its truth -/
theorem at_tru (h : AX X C a env cs fun x c1 => truA x c1 fun b => kt b c1) (he : ∀ whole, isTrue a X.env whole = (do let v ← whole; standAt a.pos; holding [v] (truthy v)) := by intro _; rfl) : AT X C a env cs kt :=
  (pt_truth h he).imp fun σ H Q ⟨ps, G, R, r, px, q⟩ => ⟨ps, G, R, r, px, fun x c1 v G1 R1 H1 hk g1 r1 o1 => by
    obtain ⟨b, h1, h2⟩ := tru_of r1 o1 hk
    exact ⟨b, h1, q b c1 G1 R1 H1 h2 g1 r1⟩⟩
theorem at_cmpR {op : CmpOp} {r : R2} {f : Sem2} (ho : OpR X (compareOp op) r) (hs : OpS C.ca X.K r f) (hm : behindInMarks op b = false) (h : AX X C a env cs fun x c1 => AX X C b env c1 fun y c2 => f x y c2 fun v c3 => ∃ z, v = .im (.bl z) ∧ kt z c3) : AT X C (.Compare a [op] [b] pos) env cs kt :=
  (pt_cmpR ho h (pe_x2 (X := X) (C := C) (env := env) (k2 := fun x y c2 => f x y c2 fun v c3 => ∃ z, v = .im (.bl z) ∧ kt z c3)) hm).imp fun σ H Q ⟨ps, G, R, r, px, q⟩ =>
    ⟨ps, G, R, r, px, fun x c1 v G1 R1 H1 hk g1 r1 o1 => ⟨x, c1, hk, ps, G1, R1, r1, px.on g1, fun y c2 u G2 R2 H2 hf g2 r2 o2 => hs _ _ _ _ _ _ _ x y _ _ _ _ r2 (o1.mono g2.ex fun _ _ z => z) o2 hf fun z c3 w G3 R3 H3 ⟨bz, ez, hz⟩ g3 r3 o3 => by
      subst ez
      exact ⟨bz, Dn.bl_inv o3, q bz c3 G3 R3 H3 hz ((g1.trans g2).trans g3) r3⟩⟩⟩
theorem at_lt (h : AX X C a env cs fun x c1 => AX X C b env c1 fun y c2 => sLt x y c2 fun v c3 => ∃ z, v = .im (.bl z) ∧ kt z c3) : AT X C (.Compare a [.Lt] [b] pos) env cs kt := at_cmpR op_ltA os_cmp (nomark _) h
theorem at_le (h : AX X C a env cs fun x c1 => AX X C b env c1 fun y c2 => sLe x y c2 fun v c3 => ∃ z, v = .im (.bl z) ∧ kt z c3) : AT X C (.Compare a [.LtE] [b] pos) env cs kt := at_cmpR op_leA os_cmp (nomark _) h
theorem at_gt (h : AX X C a env cs fun x c1 => AX X C b env c1 fun y c2 => sGt x y c2 fun v c3 => ∃ z, v = .im (.bl z) ∧ kt z c3) : AT X C (.Compare a [.Gt] [b] pos) env cs kt := at_cmpR op_gtA os_cmp (nomark _) h
theorem at_ge (h : AX X C a env cs fun x c1 => AX X C b env c1 fun y c2 => sGe x y c2 fun v c3 => ∃ z, v = .im (.bl z) ∧ kt z c3) : AT X C (.Compare a [.GtE] [b] pos) env cs kt := at_cmpR op_geA os_cmp (nomark _) h
theorem at_not (h : AT X C a env cs fun z c1 => kt (!z) c1) : AT X C (.UnaryOp .Not a pos) env cs kt :=
  (pt_not h).imp fun σ H Q ⟨ps, G, R, r, px, q⟩ => ⟨ps, G, R, r, px, fun z c1 G1 R1 H1 hk g1 r1 => q _ c1 G1 R1 H1 hk g1 r1⟩
theorem aw_at (h : AW X C a env cs kt) : AT X C a env cs kt := PW.pt h
def tW2 (X : Cx) (C : Ct) (b : Expr) (env : En) (k2 : KT) : TT := fun σ H Q => ∃ c1, AW X C b env c1 k2 ∧ tT C X.K env c1 k2 σ H Q
theorem pw_w2 {k2 : KT} : PW X b (tW2 X C b env k2) := ⟨fun wh pins s σ H Q I ⟨c1, h, t⟩ => h.run wh pins s σ H Q I t⟩
theorem aw_and1 (h : AT X C a env cs kt) : AW X C (.BoolOp .And [a] pos) env cs kt := pw_and1 h
theorem aw_or1 (h : AT X C a env cs kt) : AW X C (.BoolOp .Or [a] pos) env cs kt := pw_or1 h
theorem aw_and {rest : List Expr} (h : AT X C a env cs fun z c1 => (z = true → AW X C (.BoolOp .And (b :: rest) pos) env c1 kt) ∧ (z = false → kt false c1)) : AW X C (.BoolOp .And (a :: b :: rest) pos) env cs kt :=
  (pw_and h (pw_w2 (X := X) (C := C) (env := env) (k2 := kt))).imp fun σ H Q ⟨ps, G, R, r, px, q⟩ => ⟨ps, G, R, r, px, fun z c1 G1 R1 H1 hk g1 r1 => by
    cases z with
    | true => exact iteT ⟨c1, hk.1 rfl, ps, G1, R1, r1, px.on g1, fun b c2 G2 R2 H2 h2 g2 r2 => q b c2 G2 R2 H2 h2 (g1.trans g2) r2⟩
    | false => exact iteF (q false c1 G1 R1 H1 (hk.2 rfl) g1 r1)⟩
theorem aw_or {rest : List Expr} (h : AT X C a env cs fun z c1 => (z = true → kt true c1) ∧ (z = false → AW X C (.BoolOp .Or (b :: rest) pos) env c1 kt)) : AW X C (.BoolOp .Or (a :: b :: rest) pos) env cs kt :=
  (pw_or h (pw_w2 (X := X) (C := C) (env := env) (k2 := kt))).imp fun σ H Q ⟨ps, G, R, r, px, q⟩ => ⟨ps, G, R, r, px, fun z c1 G1 R1 H1 hk g1 r1 => by
    cases z with
    | true => exact iteT (q true c1 G1 R1 H1 (hk.1 rfl) g1 r1)
    | false => exact iteF ⟨c1, hk.2 rfl, ps, G1, R1, r1, px.on g1, fun b c2 G2 R2 H2 h2 g2 r2 => q b c2 G2 R2 H2 h2 (g1.trans g2) r2⟩⟩
/-! values -/
theorem ax_one {op : BoolOp} (h : AX X C a env cs k) : AX X C (.BoolOp op [a] pos) env cs k := pe_one h
theorem ax_and {rest : List Expr} (h : AX X C a env cs fun x c1 => ∃ z, x = .im (.bl z) ∧ (z = true → AX X C (.BoolOp .And (b :: rest) pos) env c1 k) ∧ (z = false → k (.im (.bl false)) c1)) : AX X C (.BoolOp .And (a :: b :: rest) pos) env cs k :=
  (pe_and h (pe_x2 (X := X) (C := C) (env := env) (k2 := fun _ => k))).imp fun σ H Q ⟨ps, G, R, r, px, q⟩ => ⟨ps, G, R, r, px, fun x c1 v G1 R1 H1 ⟨z, ex, hk⟩ g1 r1 o1 => by
    subst ex
    refine ⟨z, Dn.bl_inv o1, ?_⟩
    cases z with
    | true => exact iteT ⟨.im .non, c1, hk.1 rfl, ps, G1, R1, r1, px.on g1, q.on g1⟩
    | false => exact iteF (q _ c1 _ G1 R1 H1 (hk.2 rfl) g1 r1 (.bl false))⟩
theorem ax_or {rest : List Expr} (h : AX X C a env cs fun x c1 => ∃ z, x = .im (.bl z) ∧ (z = true → k (.im (.bl true)) c1) ∧ (z = false → AX X C (.BoolOp .Or (b :: rest) pos) env c1 k)) : AX X C (.BoolOp .Or (a :: b :: rest) pos) env cs k :=
  (pe_or h (pe_x2 (X := X) (C := C) (env := env) (k2 := fun _ => k))).imp fun σ H Q ⟨ps, G, R, r, px, q⟩ => ⟨ps, G, R, r, px, fun x c1 v G1 R1 H1 ⟨z, ex, hk⟩ g1 r1 o1 => by
    subst ex
    refine ⟨z, Dn.bl_inv o1, ?_⟩
    cases z with
    | true => exact iteT (q _ c1 _ G1 R1 H1 (hk.1 rfl) g1 r1 (.bl true))
    | false => exact iteF ⟨.im .non, c1, hk.2 rfl, ps, G1, R1, r1, px.on g1, q.on g1⟩⟩
theorem ax_not (h : AX X C a env cs fun x c1 => ∃ z, x = .im (.bl z) ∧ k (.im (.bl (!z))) c1) : AX X C (.UnaryOp .Not a pos) env cs k :=
  (pe_not h).imp fun σ H Q ⟨ps, G, R, r, px, q⟩ => ⟨ps, G, R, r, px, fun x c1 v G1 R1 H1 ⟨z, ex, hk⟩ g1 r1 o1 => by
    subst ex
    exact ⟨z, Dn.bl_inv o1, q _ c1 _ G1 R1 H1 hk g1 r1 (.bl _)⟩⟩
theorem ax_if (h : AT X C c env cs fun z c1 => (z = true → AX X C a env c1 k) ∧ (z = false → AX X C b env c1 k)) : AX X C (.IfExp c a b pos) env cs k :=
  (pe_ifExp h (pe_x2 (X := X) (C := C) (env := env) (k2 := fun _ => k)) (pe_x2 (X := X) (C := C) (env := env) (k2 := fun _ => k))).imp fun σ H Q ⟨ps, G, R, r, px, q⟩ => ⟨ps, G, R, r, px, fun z c1 G1 R1 H1 hk g1 r1 => by
    cases z with
    | true => exact iteT ⟨.im .non, c1, hk.1 rfl, ps, G1, R1, r1, px.on g1, q.on g1⟩
    | false => exact iteF ⟨.im .non, c1, hk.2 rfl, ps, G1, R1, r1, px.on g1, q.on g1⟩⟩

/-! ### arguments, displays -/
def tA2 (X : Cx) (C : Ct) (es : List Expr) (env : En) (k2 : AV → KA) : TA := fun σ H Q => ∃ x c1, AA X C es env c1 (k2 x) ∧ tA C X.K env c1 (k2 x) σ H Q
theorem pa_a2 {k2 : AV → KA} : PA X es (tA2 X C es env k2) := ⟨fun pos pins s σ H Q I ⟨x, c1, h, t⟩ => h.run pos pins s σ H Q I t⟩
theorem aa_nil (h : ka [] cs) : AA X C [] env cs ka := pa_nil.imp fun σ H Q ⟨ps, G, R, r, px, q⟩ => q [] cs [] G R H h (Gr.refl ps G R) r trivial
theorem aa_cons (h : AX X C e env cs fun x c1 => AA X C es env c1 fun xs c2 => ka (x :: xs) c2) (hs : starEach (e :: es) X.env = (false, eval e X.env) :: starEach es X.env := by rfl) : AA X C (e :: es) env cs ka :=
  (pa_cons h (pa_a2 (X := X) (C := C) (env := env) (k2 := fun x xs c2 => ka (x :: xs) c2)) hs).imp fun σ H Q ⟨ps, G, R, r, px, q⟩ => ⟨ps, G, R, r, px, fun x c1 v G1 R1 H1 hk g1 r1 o1 =>
    ⟨x, c1, hk, ps, G1, R1, r1, px.on g1, fun xs c2 ws G2 R2 H2 hk2 g2 r2 o2 => q (x :: xs) c2 (v :: ws) G2 R2 H2 hk2 (g1.trans g2) r2 ⟨o1.mono g2.ex fun _ _ z => z, o2⟩⟩⟩
/-- all data -/
def imL : List AV → (List Da → Prop) → Prop
  | [], k => k []
  | .im d :: as, k => imL as fun ds => k (d :: ds)
  | .ow _ :: _, _ => False
theorem imL_of : ∀ {as : List AV} {k : List Da → Prop}, imL as k → ∃ ds, as = ds.map AV.im ∧ k ds
  | [], k, h => ⟨[], rfl, h⟩
  | .im d :: as, k, h => by
    obtain ⟨ds, e, q⟩ := imL_of (as := as) h
    exact ⟨d :: ds, by rw [e]; rfl, q⟩
  | .ow _ :: _, _, h => h.elim
theorem ax_tup {j : Nat} (h : AA X C es env cs fun as c1 => imL as fun ds => ds.length ≤ 16000000 ∧ k (.im (.tup ds)) c1) : AX X C (.Tuple es j pos) env cs k :=
  (pe_tup h).imp fun σ H Q ⟨ps, G, R, r, px, q⟩ => ⟨ps, G, R, r, px, fun as c1 ws G1 R1 H1 hk g1 r1 o1 => by
    obtain ⟨ds, e, hl, hk2⟩ := imL_of hk
    subst e
    have dl := AVokL.ims o1
    exact ⟨sz_of (by rw [dl.length]; exact hl), fun p hp => r1.tup (q.on g1) hk2 dl hp⟩⟩
theorem ax_lst (h : AA X C es env cs fun as c1 => imL as fun ds => ds.length ≤ 16000000 ∧ k (.im (.lst ds)) c1) : AX X C (.List es pos) env cs k :=
  (pe_lst h).imp fun σ H Q ⟨ps, G, R, r, px, q⟩ => ⟨ps, G, R, r, px, fun as c1 ws G1 R1 H1 hk g1 r1 o1 => by
    obtain ⟨ds, e, hl, hk2⟩ := imL_of hk
    subst e
    have dl := AVokL.ims o1
    exact ⟨sz_of (by rw [dl.length]; exact hl), fun p hp => r1.lst (q.on g1) hk2 dl hp⟩⟩

/-! ### subscripts -/
def sIx : Sem2 := fun x y cs k => match x, y with
  | .im (.lst l), .im (.int i) => ∃ d, atI l i = some d ∧ k (.im d) cs
  | .im (.tup l), .im (.int i) => ∃ d, atI l i = some d ∧ k (.im d) cs
  | .im (.scr l), .im (.int i) => ∃ d, atI l i = some d ∧ k (.im (.int d)) cs
  | .im (.str z), .im (.int i) => z.length ≤ 16000000 ∧ ∃ d, atI z.cps.toList i = some d ∧ k (.im (.str ⟨#[d]⟩)) cs
  | .ow j, .im (.int i) => ∃ ds d, cs[j]? = some (some ds) ∧ atI ds i = some d ∧ k (.im d) cs
  | _, _ => False
theorem atI_dn {ca : Str → Addr} {K : PySem.W.Frag} {G : Hp} {xs : List V} {ds : List Da} {i : Int} {d : Da} (h : DnL ca K G xs ds) (e : atI ds i = some d) : ∃ v, atI xs i = some v ∧ Dn ca K G v d := by
  unfold atI at e ⊢
  rw [h.length]
  cases q : ixN ds.length i with
  | none =>
    rw [q] at e
    cases e
  | some j =>
    rw [q] at e
    exact h.get (i := j) e
theorem atI_map {α β : Type} {f : α → β} {l : List α} {i : Int} {d : α} (e : atI l i = some d) : atI (l.map f) i = some (f d) := by
  unfold atI at e ⊢
  rw [List.length_map]
  cases q : ixN l.length i with
  | none =>
    rw [q] at e
    cases e
  | some j =>
    rw [q] at e
    show (l.map f)[j]? = some (f d)
    have e' : l[j]? = some d := e
    rw [List.getElem?_map, e']
    rfl
theorem os_ix {ca : Str → Addr} {K : PySem.W.Frag} : OpS ca K (rIx K) sIx := by
  intro env cs ps σ G R H x y v u k Q r ox oy h q
  unfold sIx at h
  split at h
  · obtain ⟨p, xs, e1, t1, l1⟩ := Dn.lst_inv ox
    obtain ⟨d, ha, hk⟩ := h
    obtain ⟨w, hw, ow⟩ := atI_dn l1 ha
    exact .inl ⟨p, xs, _, w, e1, Dn.int_inv oy, .inl (.inl (r.wd.g _ _ t1)), hw, r.same q hk ow⟩
  · obtain ⟨p, xs, e1, t1, l1⟩ := Dn.tup_inv ox
    obtain ⟨d, ha, hk⟩ := h
    obtain ⟨w, hw, ow⟩ := atI_dn l1 ha
    exact .inr (.inl ⟨p, xs, _, w, e1, Dn.int_inv oy, r.wd.sqt t1, hw, r.same q hk ow⟩)
  · obtain ⟨p, e1, t1⟩ := Dn.scr_inv ox
    obtain ⟨d, ha, hk⟩ := h
    exact .inl ⟨p, _, _, .int d, e1, Dn.int_inv oy, r.wd.sql t1, atI_map ha, r.same q hk (.int d)⟩
  · obtain ⟨hz, d, ha, hk⟩ := h
    exact .inr (.inr ⟨_, _, d, Dn.str_inv ox, Dn.int_inv oy, sz_of hz, ha, r.same q hk (.str _)⟩)
  · obtain ⟨p, hp, e1⟩ := ox
    obtain ⟨ds, d, hc, ha, hk⟩ := h
    obtain ⟨vs, hR, dl⟩ := r.cell _ p ds hp hc
    obtain ⟨w, hw, ow⟩ := atI_dn dl ha
    exact .inl ⟨p, vs, _, w, e1, Dn.int_inv oy, .inl (.inl (r.wd.r _ _ hR)), hw, r.same q hk ow⟩
  · exact h.elim
theorem ax_ix (h : AX X C a env cs fun x c1 => AX X C b env c1 fun y c2 => sIx x y c2 k) (hp : PlainIx b := by intro _ _; rfl) : AX X C (.Subscript a b pos) env cs k := ax_sub ix_seq os_ix h hp
end

/-! ### statements -/
/-- what a statement is to come to -/
structure Pst where
  nx : En → Cells → Prop
  rt : AV → Cells → Prop
  bk : En → Cells → Prop := fun _ _ => False
  ct : En → Cells → Prop := fun _ _ => False
def PostS (ca : Str → Addr) (K : PySem.W.Frag) (ps : List Addr) (G R : Hp) (k : En → Cells → Prop) (Q : L2.St → Hp → Prop) : Prop := ∀ env' cs' ps' σ' G' R' H', k env' cs' → Gr ps G R ps' G' R' → Rep ca K env' cs' ps' σ' G' R' H' → Q σ' H'
theorem PostS.on {ca : Str → Addr} {K : PySem.W.Frag} {ps ps1 : List Addr} {G R G1 R1 : Hp} {k : En → Cells → Prop} {Q : L2.St → Hp → Prop} (p : PostS ca K ps G R k Q) (g : Gr ps G R ps1 G1 R1) : PostS ca K ps1 G1 R1 k Q :=
  fun e c ps2 σ G2 R2 H2 h g2 r => p e c ps2 σ G2 R2 H2 h (g.trans g2) r
def PostR (ca : Str → Addr) (K : PySem.W.Frag) (ps : List Addr) (G R : Hp) (k : AV → Cells → Prop) (Q : VK) : Prop := ∀ a env' cs' ps' σ' v G' R' H', k a cs' → Gr ps G R ps' G' R' → Rep ca K env' cs' ps' σ' G' R' H' → AVok ca K G' ps' v a → Q v H'
theorem PostR.on {ca : Str → Addr} {K : PySem.W.Frag} {ps ps1 : List Addr} {G R G1 R1 : Hp} {k : AV → Cells → Prop} {Q : VK} (p : PostR ca K ps G R k Q) (g : Gr ps G R ps1 G1 R1) : PostR ca K ps1 G1 R1 k Q :=
  fun a e c ps2 σ v G2 R2 H2 h g2 r o => p a e c ps2 σ v G2 R2 H2 h (g.trans g2) r o
structure PostE (ca : Str → Addr) (K : PySem.W.Frag) (ps : List Addr) (G R : Hp) (P : Pst) (D : Ends) : Prop where
  nx : PostS ca K ps G R P.nx D.nx
  rt : PostR ca K ps G R P.rt D.rt
  bk : PostS ca K ps G R P.bk D.bk
  ct : PostS ca K ps G R P.ct D.ct
theorem PostE.on {ca : Str → Addr} {K : PySem.W.Frag} {ps ps1 : List Addr} {G R G1 R1 : Hp} {P : Pst} {D : Ends} (p : PostE ca K ps G R P D) (g : Gr ps G R ps1 G1 R1) : PostE ca K ps1 G1 R1 P D := ⟨p.nx.on g, p.rt.on g, p.bk.on g, p.ct.on g⟩
def tS (C : Ct) (K : PySem.W.Frag) (env : En) (cs : Cells) (P : Pst) : TS := fun D σ H => ∃ ps G R, Rep C.ca K env cs ps σ G R H ∧ PostX C K ps G R ∧ PostE C.ca K ps G R P D
def AS (X : Cx) (C : Ct) (st : Stmt) (env : En) (cs : Cells) (P : Pst) : Prop := PS X st (tS C X.K env cs P)
def AB (X : Cx) (C : Ct) (st : List Stmt) (env : En) (cs : Cells) (P : Pst) : Prop := PSs X st (tS C X.K env cs P)
section
variable {X : Cx} {C : Ct} {env : En} {cs : Cells} {P : Pst} {pos : Pos} {e a b c : Expr} {es : List Expr} {st : Stmt} {rest body orelse : List Stmt}
def tB2 (X : Cx) (C : Ct) (st : List Stmt) (P : Pst) : TS := fun D σ H => ∃ env c1, AB X C st env c1 P ∧ tS C X.K env c1 P D σ H
theorem ps_b2 {st : List Stmt} : PSs X st (tB2 X C st P) := ⟨fun pins s σ H D I ⟨x, c1, h, t⟩ => h.run pins s σ H D I t⟩
theorem ab_nil (h : P.nx env cs) : AB X C [] env cs P := pss_nil.imp fun D σ H ⟨ps, G, R, r, px, q⟩ => q.nx env cs ps σ G R H h (Gr.refl ps G R) r
theorem ab_cons (h : AS X C st env cs { P with nx := fun env1 c1 => AB X C rest env1 c1 P }) : AB X C (st :: rest) env cs P :=
  (pss_cons h (ps_b2 (X := X) (C := C) (P := P))).imp fun D σ H ⟨ps, G, R, r, px, q⟩ => ⟨ps, G, R, r, px, fun env1 c1 ps1 σ1 G1 R1 H1 h1 g1 r1 => ⟨env1, c1, h1, ps1, G1, R1, r1, px.on g1, q.on g1⟩, q.rt, q.bk, q.ct⟩
theorem ab_one (h : AS X C st env cs P) : AB X C [st] env cs P := pss_one h
theorem as_pass (h : P.nx env cs) : AS X C (.Pass pos) env cs P := ps_pass.imp fun D σ H ⟨ps, G, R, r, px, q⟩ => q.nx env cs ps σ G R H h (Gr.refl ps G R) r
theorem as_break (h : P.bk env cs) : AS X C (.Break pos) env cs P := ps_break.imp fun D σ H ⟨ps, G, R, r, px, q⟩ => q.bk env cs ps σ G R H h (Gr.refl ps G R) r
theorem as_continue (h : P.ct env cs) : AS X C (.Continue pos) env cs P := ps_continue.imp fun D σ H ⟨ps, G, R, r, px, q⟩ => q.ct env cs ps σ G R H h (Gr.refl ps G R) r
theorem as_expr (h : AX X C e env cs fun _ c1 => P.nx env c1) (hs : swapsWith e none pos.line X.env = pure false := by rfl) : AS X C (.Expr e pos) env cs P :=
  (ps_expr h hs).imp fun D σ H ⟨ps, G, R, r, px, q⟩ => ⟨ps, G, R, r, px, fun a c1 w G1 R1 H1 h1 g1 r1 o1 => q.nx env c1 ps σ G1 R1 H1 h1 g1 r1⟩
theorem as_ret (h : AX X C e env cs P.rt) : AS X C (.Return (some e) pos) env cs P :=
  (ps_ret h).imp fun D σ H ⟨ps, G, R, r, px, q⟩ => ⟨ps, G, R, r, px, fun a c1 w G1 R1 H1 h1 g1 r1 o1 => q.rt a env c1 ps σ w G1 R1 H1 h1 g1 r1 o1⟩
theorem as_if (h : AT X C c env cs fun z c1 => (z = true → AB X C body env c1 P) ∧ (z = false → AB X C orelse env c1 P)) : AS X C (.If c body orelse pos) env cs P :=
  (ps_if h (ps_b2 (X := X) (C := C) (P := P)) (ps_b2 (X := X) (C := C) (P := P))).imp fun D σ H ⟨ps, G, R, r, px, q⟩ => ⟨ps, G, R, r, px, fun z c1 G1 R1 H1 hk g1 r1 => by
    cases z with
    | true => exact iteT ⟨env, c1, hk.1 rfl, ps, G1, R1, r1, px.on g1, q.on g1⟩
    | false => exact iteF ⟨env, c1, hk.2 rfl, ps, G1, R1, r1, px.on g1, q.on g1⟩⟩
/-- name = e -/
theorem as_set (i : Nat) {x : Str} {pos' : Pos} (hN : X.N.Nodup) (hi : X.N[i]? = some x) (hx : Loc X.env.scope x) (hl : i < env.length) (h : AX X C e env cs fun a c1 => P.nx (env.set i (some a)) c1)
    (hs : swapsWith e (some (.Name x pos')) pos.line X.env = pure false := by rfl) (hf : X.fn x = true ∨ X.env.scope.names.lookup x = some .local := by first | exact .inl rfl | exact .inr rfl | assumption) : AS X C (.Assign [.Name x pos'] e pos) env cs P :=
  (ps_set hN hi hx h hs hf).imp fun D σ H ⟨ps, G, R, r, px, q⟩ => ⟨ps, G, R, r, px, fun a c1 w G1 R1 H1 h1 g1 r1 o1 => q.nx _ c1 ps _ G1 R1 H1 h1 g1 (r1.setE o1 hl)⟩
/-- a fresh list: e comes to a list that nothing else knows -/
abbrev KL := List Da → Cells → Prop
def tL (C : Ct) (K : PySem.W.Frag) (env : En) (cs : Cells) (k : KL) : TE := fun σ H Q => ∃ ps G R, Rep C.ca K env cs ps σ G R H ∧ PostX C K ps G R ∧ ∀ ds c1 p vs G1 R1 H1, k ds c1 → Gr ps G R ps G1 R1 → Rep C.ca K env c1 ps σ G1 R1 H1 → H1 p = none → DnL C.ca K G1 vs ds → Q (.ref p) (upd H1 p (.lst vs))
def AL (X : Cx) (C : Ct) (e : Expr) (env : En) (cs : Cells) (k : KL) : Prop := PE X e (tL C X.K env cs k)
theorem al_lst {k : KL} (h : AA X C es env cs fun as c1 => imL as fun ds => ds.length ≤ 16000000 ∧ k ds c1) : AL X C (.List es pos) env cs k :=
  (pe_lst h).imp fun σ H Q ⟨ps, G, R, r, px, q⟩ => ⟨ps, G, R, r, px, fun as c1 ws G1 R1 H1 hk g1 r1 o1 => by
    obtain ⟨ds, e, hl, hk2⟩ := imL_of hk
    subst e
    have dl := AVokL.ims o1
    exact ⟨sz_of (by rw [dl.length]; exact hl), fun p hp => q ds c1 p ws G1 R1 H1 hk2 g1 r1 hp dl⟩⟩
/-- as data -/
theorem ax_al {k : KE} (h : AL X C e env cs fun ds c1 => k (.im (.lst ds)) c1) : AX X C e env cs k :=
  PE.imp h fun σ H Q ⟨ps, G, R, r, px, q⟩ => ⟨ps, G, R, r, px, fun ds c1 p vs G1 R1 H1 hk g1 r1 hp dl => r1.lst (q.on g1) hk dl hp⟩
/-- name = a fresh list: a new cell -/
theorem as_cell (i : Nat) {x : Str} {pos' : Pos} (hN : X.N.Nodup) (hi : X.N[i]? = some x) (hx : Loc X.env.scope x) (hl : i < env.length) (h : AL X C e env cs fun ds c1 => P.nx (env.set i (some (.ow c1.length))) (c1 ++ [some ds]))
    (hs : swapsWith e (some (.Name x pos')) pos.line X.env = pure false := by rfl) (hf : X.fn x = true ∨ X.env.scope.names.lookup x = some .local := by first | exact .inl rfl | exact .inr rfl | assumption) : AS X C (.Assign [.Name x pos'] e pos) env cs P :=
  (ps_set hN hi hx h hs hf).imp fun D σ H ⟨ps, G, R, r, px, q⟩ => ⟨ps, G, R, r, px, fun ds c1 p vs G1 R1 H1 h1 g1 r1 hp dl => by
    have r2 := r1.newC hp dl
    exact q.nx _ _ (ps ++ [p]) _ G1 _ _ h1 (g1.trans (Gr.newC r1 hp)) (r2.setE (a := .ow c1.length) ⟨p, by rw [← r1.len, List.getElem?_append_right (Nat.le_refl _), Nat.sub_self]; rfl, rfl⟩ hl)⟩
/-- what the cell k was is data from now on -/
theorem ab_frz (k : Nat) (ds : List Da) {sts : List Stmt} (hc : cs[k]? = some (some ds)) (h : AB X C sts (env.map (thaw k (.lst ds))) (cs.set k none) P) : AB X C sts env cs P :=
  PSs.imp h fun D σ H ⟨ps, G, R, r, px, q⟩ => by
    have hk : k < ps.length := by
      rw [r.len]
      exact (List.getElem?_eq_some_iff.mp hc).1
    obtain ⟨vs, r2, g2, _⟩ := r.frz (List.getElem?_eq_getElem hk) hc
    exact ⟨ps, _, _, r2, px.on g2, q.on g2⟩
theorem ab_imp {P' : Pst} {sts : List Stmt} (h : AB X C sts env cs P') (i1 : ∀ e c, P'.nx e c → P.nx e c) (i2 : ∀ a c, P'.rt a c → P.rt a c) (i3 : ∀ e c, P'.bk e c → P.bk e c) (i4 : ∀ e c, P'.ct e c → P.ct e c) : AB X C sts env cs P :=
  PSs.imp h fun D σ H ⟨ps, G, R, r, px, q⟩ => ⟨ps, G, R, r, px, fun e c ps2 σ G2 R2 H2 h g2 r2 => q.nx e c ps2 σ G2 R2 H2 (i1 e c h) g2 r2, fun a e c ps2 σ v G2 R2 H2 h g2 r2 o => q.rt a e c ps2 σ v G2 R2 H2 (i2 a c h) g2 r2 o,
    fun e c ps2 σ G2 R2 H2 h g2 r2 => q.bk e c ps2 σ G2 R2 H2 (i3 e c h) g2 r2, fun e c ps2 σ G2 R2 H2 h g2 r2 => q.ct e c ps2 σ G2 R2 H2 (i4 e c h) g2 r2⟩
/-- o[i] = e, o a cell -/
theorem as_item {o i : Expr} {pos' : Pos} (h : AX X C e env cs fun x c1 => AX X C o env c1 fun y c2 => AX X C i env c2 fun z c3 => ∃ d j n ds m, x = .im d ∧ y = .ow j ∧ z = .im (.int n) ∧ c3[j]? = some (some ds) ∧ ixN ds.length n = some m ∧ P.nx env (c3.set j (some (ds.set m d))))
    (ha : ∀ v, assign (.Subscript o i pos') X.env v = (do
      let ov ← holding [v] (eval o X.env)
      let iv ← holding [v, ov] (eval i X.env)
      standAt pos'
      holding [v, ov, iv] (setItem ov iv v)
      release [v, ov, iv] []) := by intro _; rfl) (hs : swapsWithSole [.Subscript o i pos'] e pos.line X.env = pure false := by rfl) (hw : swappedStores [.Subscript o i pos'] e X.env = pure none := by rfl)
    (h1 : (assignEach [.Subscript o i pos'] X.env).map (·.2) = [assign (.Subscript o i pos') X.env] := by rfl) : AS X C (.Assign [.Subscript o i pos'] e pos) env cs P := by
  refine (ps_asg h (pg_sub (pe_x2 (X := X) (C := C) (env := env) (k2 := fun x y c2 => AX X C i env c2 fun z c3 => ∃ d j n ds m, x = .im d ∧ y = .ow j ∧ z = .im (.int n) ∧ c3[j]? = some (some ds) ∧ ixN ds.length n = some m ∧ P.nx env (c3.set j (some (ds.set m d)))))
    (show PE X i (fun σ H Q => ∃ x y c2, AX X C i env c2 (fun z c3 => ∃ d j n ds m, x = .im d ∧ y = .ow j ∧ z = .im (.int n) ∧ c3[j]? = some (some ds) ∧ ixN ds.length n = some m ∧ P.nx env (c3.set j (some (ds.set m d)))) ∧
      tX C X.K env c2 (fun z c3 => ∃ d j n ds m, x = .im d ∧ y = .ow j ∧ z = .im (.int n) ∧ c3[j]? = some (some ds) ∧ ixN ds.length n = some m ∧ P.nx env (c3.set j (some (ds.set m d)))) σ H Q) from ⟨fun pins s σ H Q I ⟨x, y, c2, h, t⟩ => h.run pins s σ H Q I t⟩) set_list ha) hs hw h1).imp
    fun D σ H ⟨ps, G, R, r, px, q⟩ => ⟨ps, G, R, r, px, fun x c1 v G1 R1 H1 hk1 g1 r1 o1 => ⟨x, c1, hk1, ps, G1, R1, r1, px.on g1, fun y c2 u G2 R2 H2 hk2 g2 r2 o2 => ⟨x, y, c2, hk2, ps, G2, R2, r2, (px.on g1).on g2, fun z c3 t G3 R3 H3 hk3 g3 r3 o3 => ?_⟩⟩⟩
  obtain ⟨d, j, n, ds, m, rfl, rfl, rfl, hc, hm, hk⟩ := hk3
  obtain ⟨p, hp, rfl⟩ := o2
  obtain ⟨vs, hR, dl⟩ := r3.cell j p ds hp hc
  have od : Dn C.ca X.K G3 v d := Dn.mono g3.ex (Dn.mono g2.ex o1)
  refine ⟨p, vs, n, m, rfl, Dn.int_inv o3, r3.wd.r _ _ hR, by rw [dl.length]; exact hm, ?_⟩
  exact q.nx env _ ps σ G3 _ _ hk (((g1.trans g2).trans g3).trans (Gr.setC hp)) (r3.setC hp hR (DnL.set od m dl))
end
end Al
namespace Al
open PySem PySem.Spec PyProof.Rows L2

/-! ### defs, where nothing is being written out -/
structure FnG (P : Program) (w : World) (K : PySem.W.Frag) (mg : Str → Option Value) (base : Heap) (CX : CXT) (k : Nat) (f : Addr) (fd : FuncData) (ps : List Str) (sp : Sp) : Prop where
  len : ∀ vs H Q E, sp vs H Q E → vs.length = ps.length
  run : ∀ (A : Around) (outer : List PySem.Env) (s : Shared) (H : Hp) (args : Args) (us : List Value) (vs : List V) (Q : VK) (E : XK), A.guards = some [] → Room k A → Env0 P w K mg base A outer s H → BindsTo s fd args (ps.zip us) → Vals vs us → sp vs H Q E →
    codeAny (model P w) A (.call (.ref f) args) (CR CX outer P w H s Q E) s
theorem FnG.mono {P : Program} {w : World} {K : PySem.W.Frag} {mg : Str → Option Value} {base : Heap} {CX : CXT} {j k : Nat} {f : Addr} {fd : FuncData} {ps : List Str} {sp : Sp} (F : FnG P w K mg base CX j f fd ps sp) (h : j ≤ k) :
    FnG P w K mg base CX k f fd ps sp := ⟨F.len, fun A outer s H args us vs Q E hg hr => F.run A outer s H args us vs Q E hg (hr.mono h)⟩
theorem deeper_guards {A : Around} {env : PySem.Env} : (A.deeper env).guards = A.guards := by first | rfl | simp [Around.deeper]
section
variable {CX : CXT} {P : Program} {w : World} {K : PySem.W.Frag} {mg : Str → Option Value} {base : Heap}
theorem fn_ofG {k : Nat} {f : Addr} {nm ql : Str} {prm : Arguments} {sts : List Stmt} {sc : Scope} {dV kV doc pm cdv ct oc : Value} {an od : Option Addr}
    {osl : Array (Option Value)} {N ps : List Str} {sp : Sp} (lk : K.lookup f = some ⟨oc, od, .func (PySem.W.fnOf nm ql prm sts sc dV kV doc pm an cdv ct), osl⟩)
    (hcd : PySem.W.codeIn K cdv ql = true) (S : FnScope N ps sc) (len : ∀ vs H Q E, sp vs H Q E → vs.length = ps.length)
    (go : ∀ (A : Around) (outer : List PySem.Env) (s : Shared) (H : Hp) (vs : List V) (Q : VK) (E : XK), A.guards = some [] → Room k (A.deeper (envOfC ql sc s.heap.objs.size f cdv)) → sp vs H Q E →
      ∃ t, PSs (cxOf CX P w K mg base N ql sc f cdv A outer s H E) sts t ∧ t { nx := fun _ H' => Q .non H', rt := Q } (start N vs) H) :
    FnG P w K mg base CX (k + 1) f (PySem.W.fnOf nm ql prm sts sc dV kV doc pm an cdv ct) ps sp :=
  ⟨len, by
    intro A outer s H args us vs Q E gd room e0 bnd rel want
    have cnt := len _ _ _ _ want
    have inK : K.In s.heap := e0.mod.kin.keeps (fun b o e => (e0.bs b o e).1)
    have kinds : ∀ y ∈ ps.zip us, sc.names.lookup y.1 = some .local ∨
        (sc.names.lookup y.1 = some .cell ∧ ((cellsFrom (s.heap.objs.size + 1) sc.names []).lookup y.1).isSome = true) := by
      rintro ⟨n, v⟩ hy
      rcases S.par n (List.of_mem_zip hy).1 with q | q
      · left
        exact q
      · right
        exact ⟨q, PySem.W.cellsFrom_some _ _ _ (.inl q)⟩
    refine codeAny_call_function room.depth (inK _ _ lk) rfl S.co S.gen rfl
      (PySem.W.codeRec_of inK hcd) (bnd _ _ _ _ ?_)
    refine wpAny_newFunctionEnv_cells S.kind kinds ?_
    intro env he s1 x
    subst he
    refine ⟨(e0.mod.nolimit.keeps (fun b o e => (e0.bs b o e).1)).keeps x.toInCall.keep, codeAny_func ?_⟩
    obtain ⟨t, ht, hq⟩ := go A outer s H vs Q E gd (room.deeper _) want
    have I := inv_start (CX := CX) (E := E) S room.hd e0 cnt rel x
    refine wpAny_mono (ht.run [] s1 (start N vs) H _ I hq) ?_ (fun e s' hs => hs)
    intro fl s' hs
    cases fl with
    | ret u => exact (match hs with | ⟨v, _, H', J, rv, q⟩ => ⟨v, H', J.os, J.bare, J.base, J.hok, rv, q⟩)
    | next => exact (match hs with | ⟨_, H', J, q⟩ => ⟨V.non, H', J.os, J.bare, J.base, J.hok, rfl, q⟩)
    | brk => exact (match hs with | ⟨_, _, _, q⟩ => q.elim)
    | cont => exact (match hs with | ⟨_, _, _, q⟩ => q.elim)⟩
end
section
variable {X : Cx} {CX : CXT} {k : Nat} {f : Addr} {fd : FuncData} {ps : List Str} {sp : Sp} {E : XK} {x : Str} {p pos : Pos} {e : Expr} {es : List Expr} {t : TA}
theorem run_fnG {pins : List (Addr × Obj)} {σ : L2.St} {H : Hp} {s : Shared} {Q : VK} {us : List Value} {vs : List V} (F : FnG X.prog X.w X.K X.mg X.base CX k f fd ps sp) (gd : X.A.guards = some []) (hr : Room k X.A) (hb : Binds X.K fd ps [])
    (hx : Passes CX X E) (I : Inv X pins σ H s) (r : Vals vs us) (h : sp vs H Q E) : wpAny (model X.prog X.w) X.A (call (.ref f) us) (EP X pins σ Q) X.xe s := by
  have hl : us.length = ps.length := by
    rw [← r.length]
    exact F.len _ _ _ _ h
  have hb2 := hb s us I.kIn (by rw [List.append_nil]; exact hl)
  rw [List.append_nil] at hb2
  refine wpAny_call (codeAny_mono (F.run X.A X.stack s H ⟨us, []⟩ us vs Q E gd hr I.env0 hb2 r h) ?_)
  intro r s' hq
  rcases r with er | fl
  · exact hx pins σ H s er s' I hq
  · cases fl with
    | ret u => exact I.after hq
    | next => exact (show False from hq).elim
    | brk => exact (show False from hq).elim
    | cont => exact (show False from hq).elim
/-- f(e, ..) -/
theorem pe_callG (F : FnG X.prog X.w X.K X.mg X.base CX k f fd ps sp) (gd : X.A.guards = some []) (hr : Room k X.A) (hg : Gl X x) (hm : X.mg x = some (.ref f)) (hk : PySem.W.keepIn X.K (.ref f) = true) (hb : Binds X.K fd ps []) (hx : Passes CX X E)
    (ha : PA X (e :: es) t) (hdb : (x == ("__debug__" : Str)) = false := by decide) (he : starEach (e :: es) X.env = (false, eval e X.env) :: starEach es X.env := by rfl) (hpl : (backTo pos (starEach es X.env)).any (·.1) = false := by rfl) :
    PE X (.Call (.Name x p) (e :: es) [] pos) (fun σ H Q => t σ H fun vs H1 => sp vs H1 Q E) := by
  constructor
  intro pins s σ H Q I h
  refine wpAny_Call_Name_kw (ld_glob I hg hm (PySem.W.callWith_K (h₀ := X.base) I.ok.mod.kin hk ?_ he hpl) hdb)
  refine thn (ha.run pos pins s σ H _ I h) ?_
  rintro us s1 ⟨vs, H1, I1, r, q⟩
  exact ⟨I1.kIn, run_fnG F gd hr hb hx I1 r q⟩
end

/-! ### promises over data -/
/-- data in, data out; kx: what an exception may be -/
abbrev Ph := List Da → (Da → Prop) → (Str → List Str → List Da → Prop) → Prop
/-- the same with a first argument that is a list that changes -/
abbrev PhJ := List Da → List Da → (Da → List Da → Prop) → (Str → List Str → List Da → List Da → Prop) → Prop
def spP (ca : Str → Addr) (K : PySem.W.Frag) (n : Nat) (φ : Ph) : Sp := fun vs H Q E => ∃ G R ds, vs.length = n ∧ Wd G R H ∧ DnL ca K G vs ds ∧ φ ds (fun d => ∀ v G' H', Ex G G' → Wd G' R H' → Dn ca K G' v d → Q v H')
  (fun c ks es => ∀ dd G' H', Ex G G' → Wd G' R H' → ExD ca K G' H' dd ks es → E (.ref (ca c)) dd H')
def spJ (ca : Str → Addr) (K : PySem.W.Frag) (n : Nat) (φ : PhJ) : Sp := fun vs H Q E => ∃ G R p us js ws ds, vs = .ref p :: ws ∧ ws.length = n ∧ Wd G R H ∧ R p = some (.lst us) ∧ DnL ca K G us js ∧ DnL ca K G ws ds ∧
  φ js ds (fun d js' => ∀ v us' G' H', Ex G G' → DnL ca K G' us' js' → Wd G' (upd R p (.lst us')) H' → Dn ca K G' v d → Q v H')
  (fun c ks es js' => ∀ dd us' G' H', Ex G G' → DnL ca K G' us' js' → Wd G' (upd R p (.lst us')) H' → ExD ca K G' H' dd ks es → E (.ref (ca c)) dd H')
section
variable {X : Cx} {C : Ct} {env : En} {cs : Cells} {kk : KE} {CX : CXT} {k n : Nat} {f : Addr} {fd : FuncData} {ps : List Str} {x : Str} {p pos : Pos} {e : Expr} {es : List Expr}
/-- an exception of a callee comes to what this body wants -/
def PassC (CX : CXT) (X : Cx) (C : Ct) : Prop := ∀ (σ : L2.St), ∃ E : XK, Passes CX X E ∧ ∀ cls dd H, C.W cls dd σ H → E cls dd H
theorem ax_callP {φ : Ph} (F : FnG X.prog X.w X.K X.mg X.base CX0 k f fd ps (spP C.ca X.K n φ)) (gd : X.A.guards = some []) (hr : Room k X.A) (hg : Gl X x) (hm : X.mg x = some (.ref f)) (hk : PySem.W.keepIn X.K (.ref f) = true) (hb : Binds X.K fd ps [])
    (h : AA X C (e :: es) env cs fun as c1 => imL as fun ds => ds.length = n ∧ φ ds (fun d => kk (.im d) c1) fun _ _ _ => False) (hdb : (x == ("__debug__" : Str)) = false := by decide) (he : starEach (e :: es) X.env = (false, eval e X.env) :: starEach es X.env := by rfl)
    (hpl : (backTo pos (starEach es X.env)).any (·.1) = false := by rfl) (mono : ∀ ds k1 k2 x1 x2, φ ds k1 x1 → (∀ d, k1 d → k2 d) → (∀ c ks es, x1 c ks es → x2 c ks es) → φ ds k2 x2 := by assumption) :
    AX X C (.Call (.Name x p) (e :: es) [] pos) env cs kk :=
  (pe_callG F gd hr hg hm hk hb pass0 h hdb he hpl).imp fun σ H Q ⟨pz, G, R, r, px, q⟩ => ⟨pz, G, R, r, px, fun as c1 ws G1 R1 H1 h1 g1 r1 o1 => by
    obtain ⟨ds, e1, hn, hφ⟩ := imL_of h1
    subst e1
    have dl := AVokL.ims o1
    refine ⟨G1, R1, ds, dl.length.trans hn, r1.wd, dl, mono _ _ _ _ _ hφ (fun d hd v G2 H2 ex w o => ?_) fun c ks es hf => hf.elim⟩
    exact q _ c1 v G2 R1 H2 hd (g1.trans (Gr.data ex)) (r1.grow ex w) o⟩
theorem ax_callJ {φ : PhJ} (F : FnG X.prog X.w X.K X.mg X.base CX0 k f fd ps (spJ C.ca X.K n φ)) (gd : X.A.guards = some []) (hr : Room k X.A) (hg : Gl X x) (hm : X.mg x = some (.ref f)) (hk : PySem.W.keepIn X.K (.ref f) = true) (hb : Binds X.K fd ps [])
    (h : AA X C (e :: es) env cs fun as c1 => ∃ j as', as = .ow j :: as' ∧ imL as' fun ds => ds.length = n ∧ ∃ js, c1[j]? = some (some js) ∧ φ js ds (fun d js' => kk (.im d) (c1.set j (some js'))) fun _ _ _ _ => False) (hdb : (x == ("__debug__" : Str)) = false := by decide) (he : starEach (e :: es) X.env = (false, eval e X.env) :: starEach es X.env := by rfl)
    (hpl : (backTo pos (starEach es X.env)).any (·.1) = false := by rfl) (mono : ∀ js ds k1 k2 x1 x2, φ js ds k1 x1 → (∀ d js', k1 d js' → k2 d js') → (∀ c ks es js', x1 c ks es js' → x2 c ks es js') → φ js ds k2 x2 := by assumption) :
    AX X C (.Call (.Name x p) (e :: es) [] pos) env cs kk :=
  (pe_callG F gd hr hg hm hk hb pass0 h hdb he hpl).imp fun σ H Q ⟨pz, G, R, r, px, q⟩ => ⟨pz, G, R, r, px, fun as c1 ws G1 R1 H1 hk1 g1 r1 o1 => by
    obtain ⟨j, as', ea, hk2⟩ := hk1
    subst ea
    obtain ⟨ds, e1, hn, js, hc, hφ⟩ := imL_of hk2
    subst e1
    match ws, o1 with
    | w0 :: ws', ⟨⟨a, ha, ew⟩, o2⟩ =>
      subst ew
      have dl := AVokL.ims o2
      obtain ⟨us, hR, du⟩ := r1.cell j a js ha hc
      refine ⟨G1, R1, a, us, js, ws', ds, rfl, dl.length.trans hn, r1.wd, hR, du, dl, mono _ _ _ _ _ _ hφ (fun d js' hd v us' G2 H2 ex du2 w o => ?_) fun c ks es js' hf => hf.elim⟩
      have w0 : Wd G2 (upd R1 a (.lst us')) H2 := w
      -- the cell's new content
      have r2 : Rep C.ca X.K env (c1.set j (some js')) pz σ G2 (upd R1 a (.lst us')) H2 := {
        wd := w
        nd := r1.nd
        len := by rw [r1.len, List.length_set]
        cell := fun i b es h1 h2 => by
          by_cases e : i = j
          · subst e
            rw [ha] at h1
            cases h1
            rw [List.getElem?_set_self (by rw [← r1.len]; exact (List.getElem?_eq_some_iff.mp ha).1)] at h2
            cases h2
            exact ⟨us', upd_same, du2⟩
          · rw [List.getElem?_set_ne (Ne.symm e)] at h2
            obtain ⟨zs, za, zb⟩ := r1.cell i b es h1 h2
            exact ⟨zs, by rw [upd_ne (fun z => e (L2.nd_ix r1.nd h1 (by rw [z]; exact ha)))]; exact za, zb.mono ex⟩
        dead := fun i b h1 h2 => by
          by_cases e : i = j
          · subst e
            rw [List.getElem?_set_self (by rw [← r1.len]; exact (List.getElem?_eq_some_iff.mp ha).1)] at h2
            cases h2
          · rw [List.getElem?_set_ne (Ne.symm e)] at h2
            obtain ⟨o, za⟩ := r1.dead i b h1 h2
            exact ⟨o, ex _ _ za⟩
        sv := fun i b z => by
          obtain ⟨v, h1, h2⟩ := r1.sv i b z
          exact ⟨v, h1, AVok.mono ex (fun _ _ z => z) h2⟩
        sl := r1.sl }
      refine q _ _ v G2 _ H2 hd (g1.trans ⟨ex, fun b o n h => ?_, fun _ _ z => z, fun _ h n => absurd h n⟩) r2 o
      rw [upd_ne (fun z => n (by rw [z]; exact List.mem_iff_getElem?.mpr ⟨j, ha⟩))]
      exact h⟩
end

/-! ### a def's body -/
/-- the context of a body from which no exception comes -/
structure Bd (X : Cx) (K : PySem.W.Frag) (mg : Str → Option Value) (P : Program) (w : World) (base : Heap) (k : Nat) (N : List Str) (sc : Scope) : Prop where
  K : X.K = K
  mg : X.mg = mg
  N : X.N = N
theorem get_pad {α : Type} {xs : List α} {n i : Nat} {a : α} (h : (xs.map some ++ List.replicate n none)[i]? = some (some a)) : xs[i]? = some a := by
  by_cases hi : i < xs.length
  · rw [List.getElem?_append_left (by rw [List.length_map]; exact hi), List.getElem?_map] at h
    cases e : xs[i]? with
    | none =>
      rw [e] at h
      cases h
    | some b =>
      rw [e] at h
      exact Option.some.inj h
  · rw [List.getElem?_append_right (by rw [List.length_map]; omega), List.getElem?_replicate] at h
    split at h <;> cases h
def env0 (N : List Str) (as : List AV) : En := as.map some ++ List.replicate (N.length - as.length) none
section
variable {ca : Str → Addr} {P : Program} {w : World} {K : PySem.W.Frag} {mg : Str → Option Value} {base : Heap}
theorem fnP {nm ql : Str} {st : Stmt} {f : Addr} {fd : FuncData} {N ps : List Str} {k n : Nat} {φ : Ph} (F : Fun K nm ql st f fd) (S : FnScope N ps (defScope st)) (hn : ps.length = n)
    (go : ∀ (cdv : Value) (A : Around) (outer : List PySem.Env) (s : Shared) (H : Hp) (E : XK) (ds : List Da) (kd : Da → Prop), A.guards = some [] → Room k (A.deeper (envOfC ql (defScope st) s.heap.objs.size f cdv)) → ds.length = n → φ ds kd (fun _ _ _ => True) →
      AB (cxOf CX0 P w K mg base N ql (defScope st) f cdv A outer s H E).nox ⟨ca, fun _ _ _ _ => True, fun _ _ _ _ _ => False⟩ (defBody st) (env0 N (ds.map .im)) [] { nx := fun _ _ => kd .non, rt := fun a _ => ∃ d, a = .im d ∧ kd d })
    (mono : ∀ ds k1 k2 x1 x2, φ ds k1 x1 → (∀ d, k1 d → k2 d) → (∀ c ks es, x1 c ks es → x2 c ks es) → φ ds k2 x2) : FnG P w K mg base CX0 (k + 1) f fd ps (spP ca K n φ) := by
  obtain ⟨oc, od, kV, doc, pm, an, cdv, ct, osl, rfl, lk, hcd⟩ := F.ex
  refine fn_ofG lk hcd S (fun vs H Q E ⟨_, _, _, h, _⟩ => h.trans hn.symm) fun A outer s H vs Q E gd hr ⟨G, R, ds, hl, wd, dl, hφ⟩ => ?_
  have hb := go cdv A outer s H E ds _ gd hr (dl.length.symm.trans hl) (mono _ _ _ _ _ hφ (fun _ h => h) fun _ _ _ _ => trivial)
  refine ⟨_, PSs.nox hb, ?_⟩
  have hpl : n ≤ N.length := by
    have z := congrArg List.length S.pre
    rw [List.length_take] at z
    omega
  have rep : Rep ca K (env0 N (ds.map .im)) [] [] (start N vs) G R H := {
    wd := wd
    nd := List.nodup_nil
    len := rfl
    cell := fun k p ds h => by simp at h
    dead := fun k p h => by simp at h
    sv := fun i a e => by
      have e2 : (ds.map AV.im)[i]? = some a := get_pad e
      rw [List.getElem?_map] at e2
      cases q : ds[i]? with
      | none =>
        rw [q] at e2
        cases e2
      | some d =>
        rw [q] at e2
        have e3 : a = .im d := (Option.some.inj e2).symm
        subst e3
        obtain ⟨v, hv, o⟩ := dl.get q
        refine ⟨v, ?_, o⟩
        show (vs.map some ++ _)[i]? = _
        rw [List.getElem?_append_left (by rw [List.length_map]; exact (List.getElem?_eq_some_iff.mp hv).1), List.getElem?_map, hv]
        rfl
    sl := by
      have e1 := dl.length
      simp [L2.start, env0]
      omega }
  refine ⟨[], G, R, rep, fun c ks ds env cs ps' dd σ G' R' H' h => h.elim, ⟨?_, ?_, ?_, ?_⟩⟩
  · intro env' cs' ps' σ' G' R' H' h g r
    exact h .non G' H' g.ex (r.wd.less fun a o e => g.oth a o (by simp) e) .non
  · rintro a env' cs' ps' σ' v G' R' H' ⟨d, rfl, h⟩ g r o
    exact h v G' H' g.ex (r.wd.less fun a o e => g.oth a o (by simp) e) o
  · intro env' cs' ps' σ' G' R' H' h
    exact h.elim
  · intro env' cs' ps' σ' G' R' H' h
    exact h.elim
theorem fnJ {nm ql : Str} {st : Stmt} {f : Addr} {fd : FuncData} {N ps : List Str} {k n : Nat} {φ : PhJ} (F : Fun K nm ql st f fd) (S : FnScope N ps (defScope st)) (hn : ps.length = n + 1)
    (go : ∀ (cdv : Value) (A : Around) (outer : List PySem.Env) (s : Shared) (H : Hp) (E : XK) (js ds : List Da) (kd : Da → List Da → Prop), A.guards = some [] → Room k (A.deeper (envOfC ql (defScope st) s.heap.objs.size f cdv)) → ds.length = n → φ js ds kd (fun _ _ _ _ => True) →
      AB (cxOf CX0 P w K mg base N ql (defScope st) f cdv A outer s H E).nox ⟨ca, fun _ _ _ _ => True, fun _ _ _ _ _ => False⟩ (defBody st) (env0 N (.ow 0 :: ds.map .im)) [some js]
        { nx := fun _ cs => ∃ js' r, cs = some js' :: r ∧ kd .non js', rt := fun a cs => ∃ d js' r, a = .im d ∧ cs = some js' :: r ∧ kd d js' })
    (mono : ∀ js ds k1 k2 x1 x2, φ js ds k1 x1 → (∀ d js', k1 d js' → k2 d js') → (∀ c ks es js', x1 c ks es js' → x2 c ks es js') → φ js ds k2 x2) : FnG P w K mg base CX0 (k + 1) f fd ps (spJ ca K n φ) := by
  obtain ⟨oc, od, kV, doc, pm, an, cdv, ct, osl, rfl, lk, hcd⟩ := F.ex
  refine fn_ofG lk hcd S (fun vs H Q E ⟨_, _, _, _, _, ws, _, h, h2, _⟩ => by rw [h, List.length_cons, h2, hn]) fun A outer s H vs Q E gd hr ⟨G, R, p, us, js, ws, ds, ev, hl, wd, hR, du, dl, hφ⟩ => ?_
  subst ev
  have hb := go cdv A outer s H E js ds _ gd hr (dl.length.symm.trans hl) (mono _ _ _ _ _ _ hφ (fun _ _ h => h) fun _ _ _ _ _ => trivial)
  refine ⟨_, PSs.nox hb, ?_⟩
  have hpl : n + 1 ≤ N.length := by
    have z := congrArg List.length S.pre
    rw [List.length_take] at z
    omega
  have rep : Rep ca K (env0 N (.ow 0 :: ds.map .im)) [some js] [p] (start N (.ref p :: ws)) G R H := {
    wd := wd
    nd := by simp
    len := rfl
    cell := fun k q es h1 h2 => by
      cases k with
      | zero =>
        cases h1
        cases h2
        exact ⟨us, hR, du⟩
      | succ k => simp at h1
    dead := fun k q h1 h2 => by
      cases k with
      | zero => cases h2
      | succ k => simp at h1
    sv := fun i a e => by
      have e2 : (AV.ow 0 :: ds.map AV.im)[i]? = some a := get_pad e
      cases i with
      | zero =>
        cases e2
        exact ⟨.ref p, rfl, p, rfl, rfl⟩
      | succ i =>
        have e2' : (ds.map AV.im)[i]? = some a := e2
        rw [List.getElem?_map] at e2'
        cases q : ds[i]? with
        | none =>
          rw [q] at e2'
          cases e2'
        | some d =>
          rw [q] at e2'
          have e3 : a = .im d := (Option.some.inj e2').symm
          subst e3
          obtain ⟨v, hv, o⟩ := dl.get q
          refine ⟨v, ?_, o⟩
          show ((V.ref p :: ws).map some ++ _)[i + 1]? = _
          rw [List.getElem?_append_left (by rw [List.length_map, List.length_cons]; have := (List.getElem?_eq_some_iff.mp hv).1; omega), List.getElem?_map]
          show (ws[i]?).map some = _
          rw [hv]
          rfl
    sl := by
      have e1 := dl.length
      simp [L2.start, env0]
      omega }
  have fin : ∀ {env' : En} {js' : List Da} {r : Cells} {ps' : List Addr} {σ' : L2.St} {G' R' H' : Hp}, Gr [p] G R ps' G' R' → Rep ca K env' (some js' :: r) ps' σ' G' R' H' → ∃ us', DnL ca K G' us' js' ∧ Wd G' (upd R p (.lst us')) H' := by
    intro env' js' r ps' σ' G' R' H' g rp
    obtain ⟨us', h1, h2⟩ := rp.cell 0 p js' (g.pre 0 p rfl) rfl
    refine ⟨us', h2, rp.wd.less fun a o e => ?_⟩
    by_cases z : a = p
    · rw [z, upd_same] at e
      cases e
      rw [z]
      exact h1
    · rw [upd_ne z] at e
      exact g.oth a o (by simpa using z) e
  refine ⟨[p], G, R, rep, fun c ks ds env cs ps' dd σ G' R' H' h => h.elim, ⟨?_, ?_, ?_, ?_⟩⟩
  · rintro env' cs' ps' σ' G' R' H' ⟨js', r, rfl, h⟩ g rp
    obtain ⟨us', h1, h2⟩ := fin g rp
    exact h .non us' G' H' g.ex h1 h2 .non
  · rintro a env' cs' ps' σ' v G' R' H' ⟨d, js', r, rfl, rfl, h⟩ g rp o
    obtain ⟨us', h1, h2⟩ := fin g rp
    exact h v us' G' H' g.ex h1 h2 o
  · intro env' cs' ps' σ' G' R' H' h
    exact h.elim
  · intro env' cs' ps' σ' G' R' H' h
    exact h.elim
end
end Al
namespace Al
open PySem PySem.Spec PyProof.Rows L2
theorem ixN_of {n : Nat} {i : Int} {j : Nat} (e : i = (j : Int)) (h : j < n) : ixN n i = some j := by
  subst e
  unfold ixN
  rw [if_pos (by omega), if_pos (by omega)]
  rfl
theorem atI_of {α : Type} {l : List α} {i : Int} {j : Nat} {x : α} (e : i = (j : Int)) (h : l[j]? = some x) : atI l i = some x := by
  unfold atI
  rw [ixN_of e (List.getElem?_eq_some_iff.mp h).1]
  exact h
end Al
namespace Al
open PySem PySem.Spec PyProof.Rows L2

/-! ### built-in functions and types, called -/
abbrev SemA := List AV → Cells → KE → Prop
def CbS (ca : Str → Addr) (K : PySem.W.Frag) (r : List V → Hp → VK → Prop) (f : SemA) : Prop := ∀ (env : En) (cs : Cells) (ps : List Addr) (σ : L2.St) (G R H : Hp) (as : List AV) (ws : List V) (k : KE) (Q : VK), Rep ca K env cs ps σ G R H → AVokL ca K G ps ws as → f as cs k → Post ca K env ps σ G R k Q → r ws H Q
section
variable {X : Cx} {C : Ct} {env : En} {cs : Cells} {k : KE} {pos p : Pos} {e a b c : Expr} {es : List Expr} {x : Str}
theorem ax_cb {id : String} {r : List V → Hp → VK → Prop} {f : SemA} (hc : CallR X (.builtin id) r) (hs : CbS C.ca X.K r f) (hg : Gl X x) (hm : X.mg x = none) (hv : bootBuiltins x = some (.builtin id)) (h : AA X C (e :: es) env cs fun as c1 => f as c1 k) (hn : x ≠ "__name__" := by decide) (hdb : (x == ("__debug__" : Str)) = false := by decide)
    (he : starEach (e :: es) X.env = (false, eval e X.env) :: starEach es X.env := by rfl) (hpl : (backTo pos (starEach es X.env)).any (·.1) = false := by rfl) : AX X C (.Call (.Name x p) (e :: es) [] pos) env cs k :=
  (pe_callB hc hg hm hv h hn hdb he hpl).imp fun σ H Q ⟨ps, G, R, r, px, q⟩ => ⟨ps, G, R, r, px, fun as c1 ws G1 R1 H1 h1 g1 r1 o1 => hs _ _ _ _ _ _ _ as ws k Q r1 o1 h1 (q.on g1)⟩
theorem ax_ct {T : String} {r : List V → Hp → VK → Prop} {f : SemA} (hc : CallR X (.type T) r) (hs : CbS C.ca X.K r f) (hg : Gl X x) (hm : X.mg x = none) (hv : bootBuiltins x = some (.type T)) (h : AA X C (e :: es) env cs fun as c1 => f as c1 k) (hn : x ≠ "__name__" := by decide) (hdb : (x == ("__debug__" : Str)) = false := by decide)
    (he : starEach (e :: es) X.env = (false, eval e X.env) :: starEach es X.env := by rfl) (hpl : (backTo pos (starEach es X.env)).any (·.1) = false := by rfl) : AX X C (.Call (.Name x p) (e :: es) [] pos) env cs k :=
  (pe_callTy hc hg hm hv h hn hdb he hpl).imp fun σ H Q ⟨ps, G, R, r, px, q⟩ => ⟨ps, G, R, r, px, fun as c1 ws G1 R1 H1 h1 g1 r1 o1 => hs _ _ _ _ _ _ _ as ws k Q r1 o1 h1 (q.on g1)⟩
/-- one int -/
def sI1 (g : Int → Int) : SemA := fun as cs k => match as with
  | [.im (.int i)] => k (.im (.int (g i))) cs
  | _ => False
def sI2 (g : Int → Int → Int) : SemA := fun as cs k => match as with
  | [.im (.int i), .im (.int j)] => k (.im (.int (g i j))) cs
  | _ => False
theorem av1 {ca : Str → Addr} {K : PySem.W.Frag} {G : Hp} {ps : List Addr} {ws : List V} {a : AV} (h : AVokL ca K G ps ws [a]) : ∃ w, ws = [w] ∧ AVok ca K G ps w a := by
  match ws, h with
  | [w], h => exact ⟨w, rfl, h.1⟩
theorem av2 {ca : Str → Addr} {K : PySem.W.Frag} {G : Hp} {ps : List Addr} {ws : List V} {a b : AV} (h : AVokL ca K G ps ws [a, b]) : ∃ w u, ws = [w, u] ∧ AVok ca K G ps w a ∧ AVok ca K G ps u b := by
  match ws, h with
  | [w, u], h => exact ⟨w, u, rfl, h.1, h.2.1⟩
theorem cs_int {ca : Str → Addr} {K : PySem.W.Frag} : CbS ca K (fun xs H Q => (∃ i, xs = [.int i] ∧ Q (.int i) H) ∨ ∃ k, xs = [.bl k] ∧ Q (.int (if k then 1 else 0)) H) (sI1 fun i => i) := by
  intro env cs ps σ G R H as ws k Q r o h q
  unfold sI1 at h
  split at h
  · obtain ⟨w, rfl, o1⟩ := av1 o
    exact .inl ⟨_, by rw [Dn.int_inv o1], r.same q h (.int _)⟩
  · exact h.elim
theorem ax_bint (hg : Gl X "int") (hm : X.mg "int" = none) (h : AA X C (e :: es) env cs fun as c1 => sI1 (fun i => i) as c1 k) (he : starEach (e :: es) X.env = (false, eval e X.env) :: starEach es X.env := by rfl) (hpl : (backTo pos (starEach es X.env)).any (·.1) = false := by rfl) :
    AX X C (.Call (.Name "int" p) (e :: es) [] pos) env cs k := ax_ct call_int1 cs_int hg hm boot_int h (by decide) (by decide) he hpl
theorem cs_abs {ca : Str → Addr} {K : PySem.W.Frag} : CbS ca K (fun xs H Q => ∃ i, xs = [.int i] ∧ Q (.int (if i < 0 then -i else i)) H) (sI1 fun i => if i < 0 then -i else i) := by
  intro env cs ps σ G R H as ws k Q r o h q
  unfold sI1 at h
  split at h
  · obtain ⟨w, rfl, o1⟩ := av1 o
    exact ⟨_, by rw [Dn.int_inv o1], r.same q h (.int _)⟩
  · exact h.elim
theorem ax_abs (hg : Gl X "abs") (hm : X.mg "abs" = none) (h : AA X C (e :: es) env cs fun as c1 => sI1 (fun i => if i < 0 then -i else i) as c1 k) (he : starEach (e :: es) X.env = (false, eval e X.env) :: starEach es X.env := by rfl) (hpl : (backTo pos (starEach es X.env)).any (·.1) = false := by rfl) :
    AX X C (.Call (.Name "abs" p) (e :: es) [] pos) env cs k := ax_cb call_abs cs_abs hg hm (by decide +kernel) h (by decide) (by decide) he hpl
theorem cs_I2 {ca : Str → Addr} {K : PySem.W.Frag} {g : Int → Int → Int} : CbS ca K (fun xs H Q => ∃ i j, xs = [.int i, .int j] ∧ Q (.int (g i j)) H) (sI2 g) := by
  intro env cs ps σ G R H as ws k Q r o h q
  unfold sI2 at h
  split at h
  · obtain ⟨w, u, rfl, o1, o2⟩ := av2 o
    exact ⟨_, _, by rw [Dn.int_inv o1, Dn.int_inv o2], r.same q h (.int _)⟩
  · exact h.elim
theorem ax_max2 (hc : X.calm = true) (hg : Gl X "max") (hm : X.mg "max" = none) (h : AA X C (e :: es) env cs fun as c1 => sI2 (fun i j => if j > i then j else i) as c1 k) (he : starEach (e :: es) X.env = (false, eval e X.env) :: starEach es X.env := by rfl) (hpl : (backTo pos (starEach es X.env)).any (·.1) = false := by rfl) :
    AX X C (.Call (.Name "max" p) (e :: es) [] pos) env cs k := ax_cb (call_max2 hc) cs_I2 hg hm (by decide +kernel) h (by decide) (by decide) he hpl
theorem ax_min2 (hc : X.calm = true) (hg : Gl X "min") (hm : X.mg "min" = none) (h : AA X C (e :: es) env cs fun as c1 => sI2 (fun i j => if j < i then j else i) as c1 k) (he : starEach (e :: es) X.env = (false, eval e X.env) :: starEach es X.env := by rfl) (hpl : (backTo pos (starEach es X.env)).any (·.1) = false := by rfl) :
    AX X C (.Call (.Name "min" p) (e :: es) [] pos) env cs k := ax_cb (call_min2 hc) cs_I2 hg hm (by decide +kernel) h (by decide) (by decide) he hpl
/-- len -/
def sLen : SemA := fun as cs k => match as with
  | [.im (.lst l)] => k (.im (.int l.length)) cs
  | [.im (.tup l)] => k (.im (.int l.length)) cs
  | [.im (.scr l)] => k (.im (.int l.length)) cs
  | [.im (.str z)] => z.length ≤ 16000000 ∧ k (.im (.int z.length)) cs
  | [.ow j] => ∃ ds, cs[j]? = some (some ds) ∧ k (.im (.int ds.length)) cs
  | _ => False
theorem cs_len {ca : Str → Addr} {K : PySem.W.Frag} : CbS ca K (fun xs H Q => (∃ p ys, xs = [.ref p] ∧ (SqL K H p ys ∨ SqT K H p ys) ∧ Q (.int ys.length) H) ∨ (∃ z, xs = [.str z] ∧ z.length ≤ sizeLine ∧ Q (.int z.length) H)) sLen := by
  intro env cs ps σ G R H as ws k Q r o h q
  unfold sLen at h
  split at h
  · obtain ⟨w, rfl, o1⟩ := av1 o
    obtain ⟨p, xs, rfl, t, dl⟩ := Dn.lst_inv o1
    exact .inl ⟨p, xs, rfl, .inl (.inl (.inl (r.wd.g _ _ t))), by rw [dl.length]; exact r.same q h (.int _)⟩
  · obtain ⟨w, rfl, o1⟩ := av1 o
    obtain ⟨p, xs, rfl, t, dl⟩ := Dn.tup_inv o1
    exact .inl ⟨p, xs, rfl, .inr (r.wd.sqt t), by rw [dl.length]; exact r.same q h (.int _)⟩
  · obtain ⟨w, rfl, o1⟩ := av1 o
    obtain ⟨p, rfl, t⟩ := Dn.scr_inv o1
    exact .inl ⟨p, _, rfl, .inl (r.wd.sql t), by rw [List.length_map]; exact r.same q h (.int _)⟩
  · obtain ⟨w, rfl, o1⟩ := av1 o
    exact .inr ⟨_, by rw [Dn.str_inv o1], sz_of h.1, r.same q h.2 (.int _)⟩
  · obtain ⟨w, rfl, p, hp, rfl⟩ := av1 o
    obtain ⟨ds, hc, h⟩ := h
    obtain ⟨vs, hR, dl⟩ := r.cell _ p ds hp hc
    exact .inl ⟨p, vs, rfl, .inl (.inl (.inl (r.wd.r _ _ hR))), by rw [dl.length]; exact r.same q h (.int _)⟩
  · exact h.elim
theorem ax_len (hg : Gl X "len") (hm : X.mg "len" = none) (h : AA X C (e :: es) env cs fun as c1 => sLen as c1 k) (he : starEach (e :: es) X.env = (false, eval e X.env) :: starEach es X.env := by rfl) (hpl : (backTo pos (starEach es X.env)).any (·.1) = false := by rfl) :
    AX X C (.Call (.Name "len" p) (e :: es) [] pos) env cs k := ax_cb (CallR.or call_len_seq call_len_str) cs_len hg hm PySem.boot_len h (by decide) (by decide) he hpl
/-- all of a list of bools -/
def sAll : SemA := fun as cs k => ∃ bs : List Bool, as = [.im (.lst (bs.map Da.bl))] ∧ k (.im (.bl (bs.all id))) cs
theorem cs_all {ca : Str → Addr} {K : PySem.W.Frag} : CbS ca K (rAll K) sAll := by
  intro env cs ps σ G R H as ws k Q r o ⟨bs, e, h⟩ q
  subst e
  obtain ⟨w, rfl, o1⟩ := av1 o
  obtain ⟨p, xs, rfl, t, dl⟩ := Dn.lst_inv o1
  have e2 := dl.bls
  subst e2
  exact ⟨p, bs, rfl, .inl (.inl (r.wd.g _ _ t)), r.same q h (.bl _)⟩
theorem ax_all (hc : X.calm = true) (hg : Gl X "all") (hm : X.mg "all" = none) (h : AA X C (e :: es) env cs fun as c1 => sAll as c1 k) (he : starEach (e :: es) X.env = (false, eval e X.env) :: starEach es X.env := by rfl) (hpl : (backTo pos (starEach es X.env)).any (·.1) = false := by rfl) :
    AX X C (.Call (.Name "all" p) (e :: es) [] pos) env cs k := ax_cb (cr_all hc) cs_all hg hm (by decide +kernel) h (by decide) (by decide) he hpl

/-! ### methods of cells -/
/-- o.append(e), o a cell -/
theorem ax_append {o : Expr} {apos : Pos} (h : AX X C o env cs fun y c1 => ∃ j ds0, y = .ow j ∧ c1[j]? = some (some ds0) ∧ AX X C e env c1 fun x c2 => ∃ ds d, x = .im d ∧ c2[j]? = some (some ds) ∧ ds.length < 16000000 ∧ k (.im .non) (c2.set j (some (ds ++ [d]))))
    (hbase : attributeBase o "append" X.env (eval o X.env) = eval o X.env := by rfl)
    (hfew : ((backTo pos (starEach [e] X.env)).all (fun x => !x.1) && (backToKw pos (keywordEach [] X.env)).all (fun x => x.1.isSome) && decide ([e].length + ([] : List Keyword).length + (if ([] : List Keyword).isEmpty then 0 else 1) < 30)) = true := by rfl)
    (hline : (apos.endLine == pos.line) = true := by rfl) (hs : starEach [e] X.env = (false, eval e X.env) :: starEach [] X.env := by rfl) (hplain : (backTo pos (starEach [] X.env)).any (·.1) = false := by rfl) :
    AX X C (.Call (.Attribute o "append" apos) [e] [] pos) env cs k := by
  refine (pe_bm PySem.F.plainAttrs_list PySem.F.slot_list_append PySem.F.type_list_append mt_append h (pa_cons (show PE X e (fun σ H Q => ∃ j c1, AX X C e env c1 (fun x c2 => ∃ ds d, x = .im d ∧ c2[j]? = some (some ds) ∧ ds.length < 16000000 ∧ k (.im .non) (c2.set j (some (ds ++ [d])))) ∧
    tX C X.K env c1 (fun x c2 => ∃ ds d, x = .im d ∧ c2[j]? = some (some ds) ∧ ds.length < 16000000 ∧ k (.im .non) (c2.set j (some (ds ++ [d])))) σ H Q) from ⟨fun pins s σ H Q I ⟨j, c1, h, t⟩ => h.run pins s σ H Q I t⟩) pa_nil hs) hbase hfew hline hs hplain).imp
    fun σ H Q ⟨ps, G, R, r, px, q⟩ => ⟨ps, G, R, r, px, fun y c1 v G1 R1 H1 hk g1 r1 o1 => ?_⟩
  obtain ⟨j, ds0, ey, hc0, hk2⟩ := hk
  subst ey
  obtain ⟨p0, hp, rfl⟩ := o1
  obtain ⟨vs0, hR0, dl0⟩ := r1.cell j p0 ds0 hp hc0
  refine ⟨.inl ⟨rfl, vs0, .inl (.inl (r1.wd.r _ _ hR0))⟩, j, c1, hk2, ps, G1, R1, r1, px.on g1, fun x c2 u G2 R2 H2 hk3 g2 r2 o2 => ?_⟩
  obtain ⟨ds, d, ex, hc, hl, hk4⟩ := hk3
  subst ex
  obtain ⟨vs, hR, dl⟩ := r2.cell j p0 ds hp hc
  refine ⟨p0, vs, u, rfl, rfl, r2.wd.r _ _ hR, sz_lt (by rw [dl.length]; exact hl), ?_⟩
  exact q _ _ .non G2 _ _ hk4 ((g1.trans g2).trans (Gr.setC hp)) (r2.setC hp hR (dl.append (.cons o2 .nil))) .non
end

/-! ### targets -/
/-- what a target does to the slots, for the data d -/
def TgS (ca : Str → Addr) (K : PySem.W.Frag) (g : TG) (t : Da → En → (En → Prop) → Prop) : Prop := ∀ (d : Da) (v : V) (env : En) (cs : Cells) (ps : List Addr) (σ : L2.St) (G R H : Hp) (k : En → Prop) (Q : L2.St → Hp → Prop), Rep ca K env cs ps σ G R H → Dn ca K G v d → t d env k →
  (∀ env' σ', k env' → Rep ca K env' cs ps σ' G R H → Q σ' H) → g v σ H Q
def tgN (i : Nat) : Da → En → (En → Prop) → Prop := fun d env k => i < env.length ∧ k (env.set i (some (.im d)))
theorem tg_name {ca : Str → Addr} {K : PySem.W.Frag} {i : Nat} : TgS ca K (gName i) (tgN i) := fun d v env cs ps σ G R H k Q r o ⟨h1, h2⟩ q => q _ _ h2 (r.setE (a := .im d) o h1)
def TgsS (ca : Str → Addr) (K : PySem.W.Frag) (g : TGs) (t : List Da → En → (En → Prop) → Prop) : Prop := ∀ (ds : List Da) (vs : List V) (env : En) (cs : Cells) (ps : List Addr) (σ : L2.St) (G R H : Hp) (k : En → Prop) (Q : L2.St → Hp → Prop), Rep ca K env cs ps σ G R H → DnL ca K G vs ds → t ds env k →
  (∀ env' σ', k env' → Rep ca K env' cs ps σ' G R H → Q σ' H) → g vs σ H Q
def tgsNil : List Da → En → (En → Prop) → Prop := fun ds env k => ds = [] ∧ k env
def tgsCons (t : Da → En → (En → Prop) → Prop) (u : List Da → En → (En → Prop) → Prop) : List Da → En → (En → Prop) → Prop := fun ds env k => ∃ d r, ds = d :: r ∧ t d env fun env1 => u r env1 k
theorem tgs_nil {ca : Str → Addr} {K : PySem.W.Frag} : TgsS ca K gNil tgsNil := fun ds vs env cs ps σ G R H k Q r o ⟨h1, h2⟩ q => by
  subst h1
  cases o
  exact ⟨rfl, q _ _ h2 r⟩
theorem tgs_cons {ca : Str → Addr} {K : PySem.W.Frag} {g : TG} {gs : TGs} {t : Da → En → (En → Prop) → Prop} {u : List Da → En → (En → Prop) → Prop} (h1 : TgS ca K g t) (h2 : TgsS ca K gs u) : TgsS ca K (gCons g gs) (tgsCons t u) := fun ds vs env cs ps σ G R H k Q r o ⟨d, rs, e, h⟩ q => by
  subst e
  cases o with
  | cons o1 o2 => exact ⟨_, _, rfl, h1 _ _ _ _ _ _ _ _ _ _ _ r o1 h fun env1 σ1 hk r1 => h2 _ _ _ _ _ _ _ _ _ _ _ r1 o2 hk q⟩
def tgT (n : Nat) (u : List Da → En → (En → Prop) → Prop) : Da → En → (En → Prop) → Prop := fun d env k => ∃ ds, d = .tup ds ∧ ds.length = n ∧ u ds env k
theorem tg_tup {ca : Str → Addr} {K : PySem.W.Frag} {n : Nat} {gs : TGs} {u : List Da → En → (En → Prop) → Prop} (h2 : TgsS ca K gs u) : TgS ca K (gTup K n gs) (tgT n u) := fun d v env cs ps σ G R H k Q r o ⟨ds, e, hl, h⟩ q => by
  subst e
  obtain ⟨p, xs, rfl, t, dl⟩ := Dn.tup_inv o
  exact ⟨p, xs, rfl, r.wd.sqt t, by rw [dl.length]; exact hl, h2 _ _ _ _ _ _ _ _ _ _ _ r dl h q⟩

/-! ### loops -/
section
variable {X : Cx} {C : Ct} {env : En} {cs : Cells} {P : Pst} {pos pr pc : Pos} {e tg : Expr} {body : List Stmt}
abbrev Iv := Nat → En → Cells → Prop
/-- the body, by its invariant -/
def tB3 (X : Cx) (C : Ct) (st : List Stmt) : TS := fun D σ H => ∃ env c1 P, AB X C st env c1 P ∧ tS C X.K env c1 P D σ H
theorem ps_b3 {st : List Stmt} : PSs X st (tB3 X C st) := ⟨fun pins s σ H D I ⟨x, c1, P, h, t⟩ => h.run pins s σ H D I t⟩
/-- for .. in range(e) -/
theorem as_range {g : TG} {t : Da → En → (En → Prop) → Prop} (hc : X.calm = true) (hp : PassesOwn (model X.prog X.w) X.A X.env X.xe) (hg : Gl X "range") (hm : X.mg "range" = none) (hG : PG X tg g) (hT : TgS C.ca X.K g t)
    (h : AX X C e env cs fun x c1 => ∃ n : Int, x = .im (.int n) ∧ -(2 ^ 62) ≤ n ∧ n < 2 ^ 62 ∧ ∃ I : Iv, I 0 env c1 ∧ (∀ (i : Nat) env1 c2, (i : Int) < n → I i env1 c2 → t (.int (i : Int)) env1 fun env2 => AB X C body env2 c2 { nx := I (i + 1), ct := I (i + 1), bk := P.nx, rt := P.rt }) ∧ ∀ env1 c2, I n.toNat env1 c2 → P.nx env1 c2)
    (hs : starEach [e] X.env = [(false, eval e X.env)] := by rfl) (hf : ∀ x, foldedSetIterable (.Call (.Name "range" pr) [e] [] pc) X.env x = pure x := by intro _; rfl) : AS X C (.For tg (.Call (.Name "range" pr) [e] [] pc) body [] pos) env cs P := by
  refine (ps_for hp hc (pi_range1 hg hm (pa_cons h pa_nil hs) hs) hG (ps_b3 (X := X) (C := C)) hf).imp fun D σ H ⟨ps, G, R, r, px, q⟩ => ?_
  refine ⟨ps, G, R, r, px, fun x c1 v G1 R1 H1 ⟨n, ex, b1, b2, I, h0, hs, hd⟩ g1 r1 o1 => ?_⟩
  subst ex
  refine ⟨n, by rw [Dn.int_inv o1], b1, b2, for_range (lo := 0) (n := n.toNat) (fun i σ' H' => ∃ env' c' ps' G' R', I i env' c' ∧ Gr ps G R ps' G' R' ∧ Rep C.ca X.K env' c' ps' σ' G' R' H') ⟨env, c1, ps, G1, R1, h0, g1, r1⟩ ?_ ?_⟩
  · rintro i σ' H' hi ⟨env', c', ps', G', R', hI, g', r'⟩
    have e0 : (0 : Int) + (i : Int) = (i : Int) := Int.zero_add _
    rw [e0]
    refine hT _ _ _ _ _ _ _ _ _ _ _ r' (.int _) (hs i env' c' (by omega) hI) fun env2 σ2 hb r2 => ⟨env2, c', _, hb, ps', G', R', r2, px.on g', ?_, ?_, ?_, ?_⟩
    · intro e3 c3 ps3 σ3 G3 R3 H3 h3 g3 r3
      exact ⟨e3, c3, ps3, G3, R3, h3, g'.trans g3, r3⟩
    · exact q.rt.on g'
    · exact q.nx.on g'
    · intro e3 c3 ps3 σ3 G3 R3 H3 h3 g3 r3
      exact ⟨e3, c3, ps3, G3, R3, h3, g'.trans g3, r3⟩
  · rintro σ' H' ⟨env', c', ps', G', R', hI, g', r'⟩
    exact q.nx env' c' ps' σ' G' R' H' (hd env' c' hI) g' r'
/-- for .. in a list of data -/
theorem as_list {g : TG} {t : Da → En → (En → Prop) → Prop} (hc : X.calm = true) (hp : PassesOwn (model X.prog X.w) X.A X.env X.xe) (hG : PG X tg g) (hT : TgS C.ca X.K g t)
    (h : AX X C e env cs fun x c1 => ∃ ds, (x = .im (.lst ds) ∨ ∃ ns, x = .im (.scr ns) ∧ ds = ns.map Da.int) ∧ ∃ I : Iv, I 0 env c1 ∧ (∀ (i : Nat) d env1 c2, ds[i]? = some d → I i env1 c2 → t d env1 fun env2 => AB X C body env2 c2 { nx := I (i + 1), ct := I (i + 1), bk := P.nx, rt := P.rt }) ∧ ∀ env1 c2, I ds.length env1 c2 → P.nx env1 c2)
    (hf : ∀ x, foldedSetIterable e X.env x = pure x := by intro _; rfl) : AS X C (.For tg e body [] pos) env cs P := by
  refine (ps_for hp hc (pi_list h) hG (ps_b3 (X := X) (C := C)) hf).imp fun D σ H ⟨ps, G, R, r, px, q⟩ => ?_
  refine ⟨ps, G, R, r, px, fun x c1 v G1 R1 H1 ⟨ds, ex, I, h0, hs, hd⟩ g1 r1 o1 => ?_⟩
  obtain ⟨a, xs, rfl, hS, dl⟩ : ∃ a xs, v = .ref a ∧ SqL X.K G1 a xs ∧ DnL C.ca X.K G1 xs ds := by
    rcases ex with rfl | ⟨ns, rfl, rfl⟩
    · obtain ⟨p, xs, e1, t, dl⟩ := Dn.lst_inv o1
      exact ⟨p, xs, e1, .inl (.inl t), dl⟩
    · obtain ⟨p, e1, t⟩ := Dn.scr_inv o1
      exact ⟨p, _, e1, t, DnL.of_ints ns⟩
  refine ⟨a, rfl, ⟨xs, r1.wd.sql hS⟩, for_list (xs := xs) (fun i σ' H' => ∃ env' c' ps' G' R', I i env' c' ∧ Gr ps G R ps' G' R' ∧ Ex G1 G' ∧ Rep C.ca X.K env' c' ps' σ' G' R' H') ⟨env, c1, ps, G1, R1, h0, g1, Ex.refl _, r1⟩ ?_ ?_ ?_⟩
  · rintro i σ' H' _ ⟨env', c', ps', G', R', hI, g', ex, r'⟩
    exact r'.wd.sql (ex.sql hS)
  · rintro i y σ' H' hy ⟨env', c', ps', G', R', hI, g', ex, r'⟩
    obtain ⟨d, hd2, od⟩ := dl.at_ hy
    refine hT _ _ _ _ _ _ _ _ _ _ _ r' (od.mono ex) (hs i d env' c' hd2 hI) fun env2 σ2 hb r2 => ⟨env2, c', _, hb, ps', G', R', r2, px.on g', ?_, ?_, ?_, ?_⟩
    · intro e3 c3 ps3 σ3 G3 R3 H3 h3 g3 r3
      exact ⟨e3, c3, ps3, G3, R3, h3, g'.trans g3, ex.trans g3.ex, r3⟩
    · exact q.rt.on g'
    · exact q.nx.on g'
    · intro e3 c3 ps3 σ3 G3 R3 H3 h3 g3 r3
      exact ⟨e3, c3, ps3, G3, R3, h3, g'.trans g3, ex.trans g3.ex, r3⟩
  · rintro σ' H' ⟨env', c', ps', G', R', hI, g', ex, r'⟩
    rw [dl.length] at hI
    exact q.nx env' c' ps' σ' G' R' H' (hd env' c' hI) g' r'
/-- for .. in a tuple of data -/
theorem as_tuple {g : TG} {t : Da → En → (En → Prop) → Prop} (hc : X.calm = true) (hp : PassesOwn (model X.prog X.w) X.A X.env X.xe) (hG : PG X tg g) (hT : TgS C.ca X.K g t)
    (h : AX X C e env cs fun x c1 => ∃ ds, x = .im (.tup ds) ∧ ∃ I : Iv, I 0 env c1 ∧ (∀ (i : Nat) d env1 c2, ds[i]? = some d → I i env1 c2 → t d env1 fun env2 => AB X C body env2 c2 { nx := I (i + 1), ct := I (i + 1), bk := P.nx, rt := P.rt }) ∧ ∀ env1 c2, I ds.length env1 c2 → P.nx env1 c2)
    (hf : ∀ x, foldedSetIterable e X.env x = pure x := by intro _; rfl) : AS X C (.For tg e body [] pos) env cs P := by
  refine (ps_for hp hc (pi_tup h) hG (ps_b3 (X := X) (C := C)) hf).imp fun D σ H ⟨ps, G, R, r, px, q⟩ => ?_
  refine ⟨ps, G, R, r, px, fun x c1 v G1 R1 H1 ⟨ds, ex, I, h0, hs, hd⟩ g1 r1 o1 => ?_⟩
  subst ex
  obtain ⟨a, xs, rfl, hS, dl⟩ := Dn.tup_inv o1
  refine ⟨a, rfl, ⟨xs, r1.wd.sqt hS⟩, for_tup (xs := xs) (fun i σ' H' => ∃ env' c' ps' G' R', I i env' c' ∧ Gr ps G R ps' G' R' ∧ Ex G1 G' ∧ Rep C.ca X.K env' c' ps' σ' G' R' H') ⟨env, c1, ps, G1, R1, h0, g1, Ex.refl _, r1⟩ ?_ ?_ ?_⟩
  · rintro i σ' H' _ ⟨env', c', ps', G', R', hI, g', ex, r'⟩
    exact r'.wd.sqt (ex.sqt hS)
  · rintro i y σ' H' hy ⟨env', c', ps', G', R', hI, g', ex, r'⟩
    obtain ⟨d, hd2, od⟩ := dl.at_ hy
    refine hT _ _ _ _ _ _ _ _ _ _ _ r' (od.mono ex) (hs i d env' c' hd2 hI) fun env2 σ2 hb r2 => ⟨env2, c', _, hb, ps', G', R', r2, px.on g', ?_, ?_, ?_, ?_⟩
    · intro e3 c3 ps3 σ3 G3 R3 H3 h3 g3 r3
      exact ⟨e3, c3, ps3, G3, R3, h3, g'.trans g3, ex.trans g3.ex, r3⟩
    · exact q.rt.on g'
    · exact q.nx.on g'
    · intro e3 c3 ps3 σ3 G3 R3 H3 h3 g3 r3
      exact ⟨e3, c3, ps3, G3, R3, h3, g'.trans g3, ex.trans g3.ex, r3⟩
  · rintro σ' H' ⟨env', c', ps', G', R', hI, g', ex, r'⟩
    rw [dl.length] at hI
    exact q.nx env' c' ps' σ' G' R' H' (hd env' c' hI) g' r'
end
end Al
namespace Al
open PySem PySem.Spec PyProof.Rows L2

theorem wipe_at {σ : L2.St} : ∀ {vs : List Nat} {n : Nat}, (wipe σ vs)[n]? = if n ∈ vs ∧ n < σ.length then some none else σ[n]?
  | [], n => by
    rw [if_neg (by simp)]
    rfl
  | v :: vs, n => by
    show ((wipe σ vs).set v none)[n]? = _
    by_cases e : v = n
    · subst e
      by_cases h : v < σ.length
      · rw [List.getElem?_set_self (by rw [wipe_length]; exact h), if_pos ⟨List.mem_cons_self, h⟩]
      · rw [List.getElem?_eq_none (by rw [List.length_set, wipe_length]; omega), if_neg (by omega), List.getElem?_eq_none (by omega)]
    · rw [List.getElem?_set_ne e, wipe_at]
      have z : (n ∈ v :: vs) ↔ (n ∈ vs) := by
        rw [List.mem_cons]
        constructor
        · rintro (h | h)
          · exact absurd h.symm e
          · exact h
        · exact .inr
      by_cases h : n ∈ vs ∧ n < σ.length
      · rw [if_pos h, if_pos ⟨z.mpr h.1, h.2⟩]
      · rw [if_neg h, if_neg fun q => h ⟨z.mp q.1, q.2⟩]
theorem wipe_set {σ : L2.St} {vs : List Nat} {i : Nat} {x : Option V} (h : i ∈ vs) : wipe ((wipe σ vs).set i x) vs = wipe σ vs := by
  apply List.ext_getElem?
  intro n
  rw [wipe_at, List.length_set, wipe_length]
  by_cases hn : n ∈ vs ∧ n < σ.length
  · rw [if_pos hn, wipe_at, if_pos hn]
  · rw [if_neg hn]
    by_cases e : i = n
    · subst e
      have hl : ¬ i < σ.length := fun z => hn ⟨h, z⟩
      rw [List.getElem?_eq_none (by rw [List.length_set, wipe_length]; omega), List.getElem?_eq_none (by rw [wipe_length]; omega)]
    · rw [List.getElem?_set_ne e]
theorem Rep.wipe {ca : Str → Addr} {K : PySem.W.Frag} {env : En} {cs : Cells} {ps : List Addr} {σ : L2.St} {G R H : Hp} {vs : List Nat} (r : Rep ca K env cs ps σ G R H) (h : ∀ i ∈ vs, ∀ a, env[i]? ≠ some (some a)) : Rep ca K env cs ps (L2.wipe σ vs) G R H where
  wd := r.wd
  nd := r.nd
  len := r.len
  cell := r.cell
  dead := r.dead
  sv := fun i a e => by
    obtain ⟨v, h1, h2⟩ := r.sv i a e
    exact ⟨v, by rw [wipe_at, if_neg (fun z => h i z.1 a e)]; exact h1, h2⟩
  sl := by rw [wipe_length, r.sl]
theorem Rep.env {ca : Str → Addr} {K : PySem.W.Frag} {env env' : En} {cs cs' : Cells} {ps : List Addr} {σ σ' : L2.St} {G G' R R' H H' : Hp} (r : Rep ca K env cs ps σ G R H) (r' : Rep ca K env' cs' ps σ' G' R' H') (e : Ex G G') : Rep ca K env cs' ps σ G' R' H' where
  wd := r'.wd
  nd := r'.nd
  len := r'.len
  cell := r'.cell
  dead := r'.dead
  sv := fun i a z => by
    obtain ⟨v, h1, h2⟩ := r.sv i a z
    exact ⟨v, h1, AVok.mono e (fun _ _ z => z) h2⟩
  sl := r.sl
theorem Rep.reR {ca : Str → Addr} {K : PySem.W.Frag} {env : En} {cs : Cells} {ps : List Addr} {σ : L2.St} {G R R' H H' : Hp} (r : Rep ca K env cs ps σ G R H) (w : Wd G R' H') (h : ∀ p ∈ ps, R' p = R p) : Rep ca K env cs ps σ G R' H' where
  wd := w
  nd := r.nd
  len := r.len
  cell := fun j q es h1 h2 => by
    obtain ⟨us, a, b⟩ := r.cell j q es h1 h2
    exact ⟨us, by rw [h q (List.mem_iff_getElem?.mpr ⟨j, h1⟩)]; exact a, b⟩
  dead := r.dead
  sv := r.sv
  sl := r.sl
section
variable {X : Cx} {C : Ct} {env : En} {cs : Cells} {k : KL} {pos pr pc : Pos} {e tg elt : Expr} {ifs : List Expr} {scope : Scope} {own : List (Str × Nat)}
abbrev Ic := Nat → List Da → Cells → Prop
/-- the block of a comprehension -/
abbrev Blk (X : Cx) (scope : Scope) (p : Cx → Prop) : Prop := ∀ (s : Shared) (H : Hp) (Cc : Addr) (cl : List (Str × Addr)) (fp : List Addr), p (X.blk s H scope (compEnvC scope cl Cc X.env) fp)
/-- the tests and the element, for one item -/
def AE1 (X : Cx) (C : Ct) (scope : Scope) (ifs : List Expr) (elt : Expr) (env : En) (cs : Cells) (acc : List Da) (kn : List Da → Cells → Prop) : Prop :=
  match ifs with
  | [] => Blk X scope fun Y => AX Y C elt env cs fun a c1 => ∃ d, a = .im d ∧ acc.length < 16000000 ∧ kn (acc ++ [d]) c1
  | [t] => Blk X scope fun Y => AT Y C t env cs fun b c1 => (b = true → Blk X scope fun Y => AX Y C elt env c1 fun a c2 => ∃ d, a = .im d ∧ acc.length < 16000000 ∧ kn (acc ++ [d]) c2) ∧ (b = false → kn acc c1)
  | _ => False
def tTs (X : Cx) (C : Ct) (scope : Scope) (ifs : List Expr) : TT := match ifs with
  | [] => tYes
  | [t] => fun σ H Q => ∃ env c1 kt, (Blk X scope fun Y => AT Y C t env c1 kt) ∧ tT C X.K env c1 kt σ H Q
  | _ => fun _ _ _ => False
def tEl (X : Cx) (C : Ct) (scope : Scope) (elt : Expr) : TE := fun σ H Q => ∃ env c1 k, (Blk X scope fun Y => AX Y C elt env c1 k) ∧ tX C X.K env c1 k σ H Q
theorem pts_two {c d : Expr} {l : List Expr} {Y : Cx} : PTs Y (c :: d :: l) (fun _ _ _ => False) := ⟨fun _ _ _ _ _ _ h => h.elim⟩
/-- what stands behind some turns: D, the list that is made -/
def Cst (X : Cx) (C : Ct) (env : En) (ps : List Addr) (σ : L2.St) (G R : Hp) (D : Addr) (kn : List Da → Cells → Prop) (H : Hp) : Prop :=
  ∃ (c : Cells) (acc : List Da) (vacc : List V) (G1 R1 : Hp), kn acc c ∧ Gr ps G R ps G1 R1 ∧ Rep C.ca X.K env c ps σ G1 R1 H ∧ R1 D = some (.lst vacc) ∧ DnL C.ca X.K G1 vacc acc
/-- one turn -/
theorem comp_turn {ps : List Addr} {σ : L2.St} {G R G1 R1 H : Hp} {c1 : Cells} {D : Addr} {acc : List Da} {vacc : List V} {env2 : En} {σ2 : L2.St} {kn : List Da → Cells → Prop} (px : PostX C X.K ps G R) (hR0 : R D = none) (hDp : D ∉ ps)
    (r0 : Rep C.ca X.K env c1 ps σ G1 R1 H) (g' : Gr ps G R ps G1 R1) (hD : R1 D = some (.lst vacc)) (da : DnL C.ca X.K G1 vacc acc)
    (r2 : Rep C.ca X.K env2 c1 ps σ2 G1 R1 H) (h : AE1 X C scope ifs elt env2 c1 acc kn) :
    tTs X C scope ifs σ2 H fun b H3 => if b = true then tEl X C scope elt σ2 H3 fun y H4 => ∃ ac, H4 D = some (.lst ac) ∧ ac.length < sizeLine ∧ Cst X C env ps σ G R D kn (upd H4 D (.lst (ac ++ [y]))) else Cst X C env ps σ G R D kn H3 := by
  have el : ∀ {c3 : Cells} {G3 R3 H3 : Hp}, Gr ps G1 R1 ps G3 R3 → Rep C.ca X.K env2 c3 ps σ2 G3 R3 H3 → (Blk X scope fun Y => AX Y C elt env2 c3 fun a c2 => ∃ d, a = .im d ∧ acc.length < 16000000 ∧ kn (acc ++ [d]) c2) →
      tEl X C scope elt σ2 H3 fun y H4 => ∃ ac, H4 D = some (.lst ac) ∧ ac.length < sizeLine ∧ Cst X C env ps σ G R D kn (upd H4 D (.lst (ac ++ [y]))) := by
    intro c3 G3 R3 H3 g3 r3 hb
    refine ⟨env2, c3, _, hb, ps, G3, R3, r3, px.on (g'.trans g3), fun a c4 y G4 R4 H4 ⟨d, ea, hl, hk⟩ g4 r4 o4 => ?_⟩
    subst ea
    have hD4 : R4 D = some (.lst vacc) := g4.oth D _ hDp (g3.oth D _ hDp hD)
    have e14 : Ex G1 G4 := g3.ex.trans g4.ex
    have da4 := da.mono e14
    have gg := g'.trans (g3.trans g4)
    have r5 := r0.env r4 e14
    refine ⟨vacc, r4.wd.r _ _ hD4, sz_lt (by rw [da4.length]; exact hl), c4, acc ++ [d], vacc ++ [y], G4, upd R4 D (.lst (vacc ++ [y])), hk, ?_, ?_, upd_same, da4.append (.cons o4 .nil)⟩
    · refine ⟨gg.ex, fun q o n e => ?_, gg.pre, gg.new⟩
      rw [upd_ne (fun z => by rw [z, hR0] at e; cases e)]
      exact gg.oth q o n e
    · exact r5.reR (r5.wd.setR hD4) fun p hp => upd_ne (fun z => hDp (by rw [← z]; exact hp))
  match ifs, h with
  | [], h =>
    have z := el (Gr.refl _ _ _) r2 h
    unfold tTs tYes
    exact (if_pos rfl : (if true = true then _ else _) = _).mpr z
  | [t], h =>
    refine ⟨env2, c1, _, h, ps, G1, R1, r2, px.on g', fun b c3 G3 R3 H3 hb g3 r3 => ?_⟩
    cases b with
    | true => exact iteT (el g3 r3 (hb.1 rfl))
    | false => exact iteF ⟨c3, acc, vacc, G3, R3, hb.2 rfl, g'.trans g3, r0.env r3 g3.ex, g3.oth D _ hDp hD, da.mono g3.ex⟩
  | _ :: _ :: _, h => exact h.elim
theorem blk_pts {ifs : List Expr} : Blk X scope fun Y => PTs Y ifs (tTs X C scope ifs) := by
  intro s H Cc cl fp
  match ifs with
  | [] => exact pts_nil
  | [t] => exact pts_one ⟨fun pins s' σ H' Q I ⟨env, c1, kt, h, q⟩ => (h s H Cc cl fp).run pins s' σ H' Q I q⟩
  | _ :: _ :: _ => exact pts_two
theorem blk_el : Blk X scope fun Y => PE Y elt (tEl X C scope elt) := fun s H Cc cl fp => ⟨fun pins s' σ H' Q I ⟨env, c1, k, h, q⟩ => (h s H Cc cl fp).run pins s' σ H' Q I q⟩
/-- the start: a list that nothing else knows -/
theorem comp_start {ps : List Addr} {σ : L2.St} {G R H : Hp} {c1 : Cells} {D : Addr} {kn : List Da → Cells → Prop} (r : Rep C.ca X.K env c1 ps σ G R H) (hD : H D = none) (h : kn [] c1) : Cst X C env ps σ G R D kn (upd H D (.lst [])) := by
  have hR := r.wd.freshR hD
  have hn := r.notin hD
  refine ⟨c1, [], [], G, upd R D (.lst []), h, ⟨Ex.refl _, fun q o n e => ?_, fun _ _ z => z, fun _ h n => absurd h n⟩, r.reR (r.wd.newR hD) fun p hp => upd_ne (fun z => hn (by rw [← z]; exact hp)), upd_same, .nil⟩
  rw [upd_ne (fun z => by rw [z, hR] at e; cases e)]
  exact e
/-- the end -/
theorem comp_end {ps : List Addr} {σ : L2.St} {G R H : Hp} {D : Addr} {Q : VK} (hR0 : R D = none) (hDp : D ∉ ps)
    (q : ∀ ds c1 p vs G1 R1 H1, k ds c1 → Gr ps G R ps G1 R1 → Rep C.ca X.K env c1 ps σ G1 R1 H1 → H1 p = none → DnL C.ca X.K G1 vs ds → Q (.ref p) (upd H1 p (.lst vs))) (h : Cst X C env ps σ G R D k H) : Q (.ref D) H := by
  obtain ⟨c, acc, vacc, G1, R1, hk, g, r, hD, dl⟩ := h
  have hG := r.wd.noG hD
  have w : Wd G1 (cut R1 D) (cut H D) := by
    refine ⟨fun a o e => ?_, fun a o e => ?_, fun a o e => ?_⟩
    · rw [cut_ne (fun z => by rw [z, hG] at e; cases e)]
      exact r.wd.g a o e
    · by_cases z : a = D
      · rw [z, cut_same] at e
        cases e
      · rw [cut_ne z] at e
        rw [cut_ne z]
        exact r.wd.r a o e
    · by_cases z : a = D
      · rw [z]
        exact cut_same
      · rw [cut_ne z]
        exact r.wd.d a o e
  have r2 : Rep C.ca X.K env c ps σ G1 (cut R1 D) (cut H D) := r.reR w fun p hp => cut_ne (fun z => hDp (by rw [← z]; exact hp))
  have g2 : Gr ps G R ps G1 (cut R1 D) := ⟨g.ex, fun b o n e => by
    rw [cut_ne (fun z => by rw [z, hR0] at e; cases e)]
    exact g.oth b o n e, g.pre, g.new⟩
  have z := q acc c D vacc G1 _ _ hk g2 r2 cut_same dl
  have e : upd (cut H D) D (.lst vacc) = H := by
    funext b
    by_cases hb : b = D
    · rw [hb, upd_same, r.wd.r _ _ hD]
    · rw [upd_ne hb, cut_ne hb]
  rw [e] at z
  exact z
/-- [elt for x in range(e) if ..] -/
theorem al_lcR (i : Nat) {x : Str} {p0 : Pos} (hc : X.calm = true) (hN : X.N.Nodup) (hg : Gl X "range") (hm : X.mg "range" = none) (ok : BlkOk X.N X.env.scope scope own) (hi : i ∈ own.map (·.2)) (hl : i < env.length) (hw : ∀ j ∈ own.map (·.2), ∀ a, env[j]? ≠ some (some a))
    (hG : Blk X scope fun Y => PG Y (.Name x p0) (gName i))
    (h : AX X C e env cs fun z c1 => ∃ n : Int, z = .im (.int n) ∧ -(2 ^ 62) ≤ n ∧ n < 2 ^ 62 ∧ ∃ I : Ic, I 0 [] c1 ∧ (∀ (t : Nat) acc c, (t : Int) < n → I t acc c → AE1 X C scope ifs elt (env.set i (some (.im (.int (t : Int))))) c acc (I (t + 1))) ∧ ∀ acc c, I n.toNat acc c → k acc c)
    (hs : starEach [e] X.env = [(false, eval e X.env)] := by rfl) (hf : ∀ x, foldedSetIterable (.Call (.Name "range" pr) [e] [] pc) X.env x = pure x := by intro _; rfl) :
    AL X C (.ListComp elt [⟨.Name x p0, .Call (.Name "range" pr) [e] [] pc, ifs, 0⟩] scope pos) env cs k := by
  refine (pe_lc (own := own) (g := gName i) (tt := tTs X C scope ifs) (te := tEl X C scope elt) hc hN (pi_range1 hg hm (pa_cons h pa_nil hs) hs) ok hG blk_pts blk_el hf).imp fun σ H Q ⟨ps, G, R, r, px, q⟩ => ?_
  refine ⟨ps, G, R, r, px, fun z c1 v G1 R1 H1 ⟨n, ez, b1, b2, I, h0, ht, hd⟩ g1 r1 o1 => ?_⟩
  subst ez
  refine ⟨n, by rw [Dn.int_inv o1], b1, b2, fun D hD => ?_⟩
  have hR0 := r1.wd.freshR hD
  have hn := r1.notin hD
  refine lc_range (lo := 0) (n := n.toNat) (fun t H' => Cst X C env ps σ G1 R1 D (I t) H') (comp_start r1 hD h0) ?_ fun H' hH => comp_end hR0 hn (fun ds c2 p vs G2 R2 H2 h2 g2 => q ds c2 p vs G2 R2 H2 (hd ds c2 h2) (g1.trans g2)) hH
  rintro t H' ht2 ⟨c2, acc, vacc, G2, R2, hI, g2, r2, hD2, da⟩
  have e0 : (0 : Int) + (t : Int) = (t : Int) := Int.zero_add _
  rw [e0]
  exact ⟨wipe_set hi, comp_turn (px.on g1) hR0 hn r2 g2 hD2 da ((r2.wipe hw).setE (a := .im (.int (t : Int))) (.int _) hl) (ht t acc c2 (by omega) hI)⟩
/-- [elt for tg in xs if ..], xs a list of data -/
theorem al_lcL (i : Nat) {x : Str} {p0 : Pos} (hc : X.calm = true) (hN : X.N.Nodup) (ok : BlkOk X.N X.env.scope scope own) (hi : i ∈ own.map (·.2)) (hl : i < env.length) (hw : ∀ j ∈ own.map (·.2), ∀ a, env[j]? ≠ some (some a))
    (hG : Blk X scope fun Y => PG Y (.Name x p0) (gName i))
    (h : AX X C e env cs fun z c1 => ∃ ds, z = .im (.lst ds) ∧ ∃ I : Ic, I 0 [] c1 ∧ (∀ (t : Nat) d acc c, ds[t]? = some d → I t acc c → AE1 X C scope ifs elt (env.set i (some (.im d))) c acc (I (t + 1))) ∧ ∀ acc c, I ds.length acc c → k acc c)
    (hf : ∀ x, foldedSetIterable e X.env x = pure x := by intro _; rfl) :
    AL X C (.ListComp elt [⟨.Name x p0, e, ifs, 0⟩] scope pos) env cs k := by
  refine (pe_lc (own := own) (g := gName i) (tt := tTs X C scope ifs) (te := tEl X C scope elt) hc hN (pi_list h) ok hG blk_pts blk_el hf).imp fun σ H Q ⟨ps, G, R, r, px, q⟩ => ?_
  refine ⟨ps, G, R, r, px, fun z c1 v G1 R1 H1 ⟨ds, ez, I, h0, ht, hd⟩ g1 r1 o1 => ?_⟩
  subst ez
  obtain ⟨a, xs, rfl, t1, dl⟩ := Dn.lst_inv o1
  refine ⟨a, rfl, ⟨xs, .inl (.inl (r1.wd.g _ _ t1))⟩, fun D hD => ?_⟩
  have hR0 := r1.wd.freshR hD
  have hn := r1.notin hD
  refine lc_list (xs := xs) (fun t H' => Cst X C env ps σ G1 R1 D (I t) H') (comp_start r1 hD h0) ?_ ?_ fun H' hH => comp_end hR0 hn (fun es c2 p vs G2 R2 H2 h2 g2 => q es c2 p vs G2 R2 H2 (hd es c2 (by rw [← dl.length]; exact h2)) (g1.trans g2)) hH
  · rintro t H' _ ⟨c2, acc, vacc, G2, R2, hI, g2, r2, hD2, da⟩
    exact .inl (.inl (r2.wd.g _ _ (g2.ex _ _ t1)))
  · rintro t y H' hy ⟨c2, acc, vacc, G2, R2, hI, g2, r2, hD2, da⟩
    obtain ⟨d, hd2, od⟩ := dl.at_ hy
    exact ⟨wipe_set hi, comp_turn (px.on g1) hR0 hn r2 g2 hD2 da ((r2.wipe hw).setE (a := .im d) (od.mono g2.ex) hl) (ht t d acc c2 hd2 hI)⟩
end
end Al
/-! own exception classes, called: by position, by name -/
namespace Al
open PySem PySem.Spec PyProof.Rows L2
section
variable {prog : Program} {w : World} {A : Around} {E : Value → Shared → Prop} {R : Result → Shared → Prop} {hp : Heap} {gs : Array GenState} {dr : Drawn} {tk : Nat} {sys : OsState}
variable {n0 q0 : Str} {C N0 : Addr} {bs0 bm tl : List Value} {hd0 : Bool} {sn0 : List Str} {sb0 : List Value} {ab0 : Bool} {cl0 : Option Bool} {dd0 : Option Addr} {c0 c1 c2 c3 c5 : Option Value} {B nid iid : String}
abbrev xTup (vs : List Value) : Obj := { cls := .type "tuple", data := .seq vs.toArray }
abbrev xObj (C t : Addr) : Obj := { cls := .ref C, data := .fields #[.ref t, .none, .none, .none, .bool false, .none] }
theorem chkNew (FB : ExcBaseFacts B nid iid tl) (same : ∀ X : String, bm.contains (.type X) = tl.contains (.type X)) {vs : List Value} {kw : List (Str × Value)} {Q : Unit → Shared → Prop}
    (hC : hp.get? C = some (excClassObj n0 q0 C N0 bs0 bm hd0 sn0 sb0 ab0 cl0 dd0 c0 c1 c2 c3 c5 nid)) (arg : Bind.checkArgs nid ⟨.any, B, B, .cls, [⟨"args", .varPos, false⟩, ⟨"kwargs", .varKw, false⟩]⟩ ⟨.ref C :: vs, kw⟩ = pure ()) (fin : Q () ⟨hp, gs, dr, tk, sys⟩) :
    wpAny (model prog w) A (checkBuiltinCall nid ⟨.ref C :: vs, kw⟩) Q E ⟨hp, gs, dr, tk, sys⟩ := by
  have isB : (Value.ref C :: bm).contains (.type B) = true := by
    rw [List.contains_cons, same, FB.hasB]
    exact Bool.or_true _
  have short := FB.noStar
  simp only [checkBuiltinCall, FB.newKind, FB.newSplit, FB.newRow, arg]
  repeat (first
    | refine wpAny_loadPart_at hC ?_
    | (refine wpAny_isSubtype_exc hC ?_
       rw [isB])
    | refine wpAny_staticBase_exc hC ?_
    | refine wpAny_madeBy_exc hC ?_
    | simp only [bne_self_eq_false, Bool.false_eq_true, if_false]
    | wp_step)
  exact fin
theorem runNew (FB : ExcBaseFacts B nid iid tl) (same : ∀ X : String, bm.contains (.type X) = tl.contains (.type X)) {vs : List Value} {kw : List (Str × Value)}
    (hC : hp.get? C = some (excClassObj n0 q0 C N0 bs0 bm hd0 sn0 sb0 ab0 cl0 dd0 c0 c1 c2 c3 c5 nid)) (few : vs.length ≤ sizeLine)
    (fin : R (.ok (.ret (.ref (hp.objs.size + 1)))) ⟨(hp.push (xTup vs)).push (xObj C hp.objs.size), gs, dr, tk, sys⟩) : codeAny (model prog w) A (.builtin nid ⟨.ref C :: vs, kw⟩) R ⟨hp, gs, dr, tk, sys⟩ := by
  have tail := FB.ends
  have isB : (Value.ref C :: bm).contains (.type B) = true := by
    rw [List.contains_cons, same, FB.hasB]
    exact Bool.or_true _
  have isA : (Value.ref C :: bm).contains (.type "AttributeError") = false := by
    rw [List.contains_cons, same, FB.noAttr]
    rfl
  have isN : (Value.ref C :: bm).contains (.type "NameError") = false := by
    rw [List.contains_cons, same, FB.noName]
    rfl
  refine codeAny_builtinAt FB.entry ?_
  unfold Builtin.«BaseException.__new__»
  refine PySem.wpAt_bind ?_
  show PySem.wpAt _ _ _ (stack >>= _) _ _ _
  refine PySem.wpAt_bind (PySem.wpAt_stack ?_)
  intro p below
  refine PySem.wpAt_of_wpAny ?_
  wp_walk
  apply PySem.wpAt_of_wpAny
  rw [FB.owner]
  repeat (first
    | with_reducible refine wpAny_madeHere_exc FB.canon hC ?_
    | with_reducible refine wpAny_loadPart_at hC ?_
    | (with_reducible refine wpAny_isSubtype_exc hC ?_
       first | rw [isB] | rw [isA] | rw [isN])
    | wp_step)
  show R _ _
  simp only [Heap.size_push]
  exact fin
theorem chkCall {vs : List Value} {kw : List (Str × Value)} {Q : Unit → Shared → Prop} (hC : hp.get? C = some (excClassObj n0 q0 C N0 bs0 bm hd0 sn0 sb0 ab0 cl0 dd0 c0 c1 c2 c3 c5 nid)) (fin : Q () ⟨hp, gs, dr, tk, sys⟩) :
    wpAny (model prog w) A (checkBuiltinCall "type.__call__" ⟨.ref C :: vs, kw⟩) Q E ⟨hp, gs, dr, tk, sys⟩ := by
  have s1 := tc_sub
  have s2 : (⟨hp, gs, dr, tk, sys⟩ : Shared).TypeIs (.ref C) "type" := ⟨_, hC, rfl⟩
  simp only [checkBuiltinCall, tc_kind, tc_split]
  repeat (any_goals (first
    | assumption
    | with_reducible refine wpAny_loadPart_at hC ?_
    | with_reducible refine wpAny_onRaise ?_
    | with_reducible refine wpAny_map ?_
    | wp_step))
theorem runType (FB : ExcBaseFacts B nid iid tl) (same : ∀ X : String, bm.contains (.type X) = tl.contains (.type X)) {vs : List Value} {kw : List (Str × Value)} {fI : Addr} {Q : Fin → Shared → Prop}
    (hC : hp.get? C = some (excClassObj n0 q0 C N0 bs0 bm hd0 sn0 sb0 ab0 cl0 dd0 c0 c1 c2 c3 c5 nid)) (arg : Bind.checkArgs nid ⟨.any, B, B, .cls, [⟨"args", .varPos, false⟩, ⟨"kwargs", .varKw, false⟩]⟩ ⟨.ref C :: vs, kw⟩ = pure ())
    (lk : PySem.W.Looks (model prog w) hp (typeLookup (.ref C) "__init__") (some (.ref fI))) (bd : ∀ self, PySem.W.Looks (model prog w) hp (bindSpecial (.ref fI) self) (.ref fI, [self])) (few : vs.length ≤ sizeLine)
    (go : codeAny (model prog w) A (.call (.ref fI) ⟨.ref (hp.objs.size + 1) :: vs, kw⟩)
      (fun r s' => match r with | .ok (.ret v) => v = .none ∧ Q (.done (.ret (.ref (hp.objs.size + 1)))) s' | .ok _ => False | .error x => E x s')
      ⟨(hp.push (xTup vs)).push (xObj C hp.objs.size), gs, dr, tk, sys⟩) : wpAny (model prog w) A (Builtin.«type.__call__» ⟨.ref C :: vs, kw⟩) Q E ⟨hp, gs, dr, tk, sys⟩ := by
  repeat (first
    | with_reducible refine wpAny_loadPart_at hC ?_
    | with_reducible refine wpAny_madeBy_exc hC ?_
    | wp_step)
  refine codeAny_call_builtin_code (Code.quiet_builtin _ FB.quiet) (chkNew FB same hC arg (runNew FB same hC few ?_))
  show wpAny _ _ _ _ _ _
  have kp : ∀ b o, hp.get? b = some o → ((hp.push (xTup vs)).push (xObj C hp.objs.size)).get? b = some o := by
    intro b o z
    exact Heap.get?_push_of_some _ (Heap.get?_push_of_some _ z)
  have atC := kp _ _ hC
  have atX : ((hp.push (xTup vs)).push (xObj C hp.objs.size)).get? (hp.objs.size + 1) = some (xObj C hp.objs.size) := by heap_get
  have selfC : (Value.ref C :: bm).contains (.ref C) = true := by simp
  have l2 := lk.keeps kp
  have b2 := (bd (.ref (hp.objs.size + 1))).keeps kp
  unfold isInstance
  repeat (first
    | with_reducible refine wpAny_loadPart_at atX ?_
    | (with_reducible refine wpAny_isSubtype_exc atC ?_
       rw [selfC])
    | wp_step)
  show wpAny _ _ (typeLookup (.ref C) _) _ _ _
  refine l2.at (wpAny_holding (wpAny_bind (b2.at (wpAny_bind (wpAny_call (codeAny_mono go ?_))))))
  intro r s' z
  rcases r with e | fl
  · exact z
  · cases fl with
    | ret v =>
      obtain ⟨z1, z2⟩ := z
      subst z1
      first
        | exact wpAny_pure (wpAny_pure z2)
        | (wp_walk
           exact z2)
    | next => exact (show False from z).elim
    | brk => exact (show False from z).elim
    | cont => exact (show False from z).elim
theorem runCall (FB : ExcBaseFacts B nid iid tl) (same : ∀ X : String, bm.contains (.type X) = tl.contains (.type X)) {vs : List Value} {kw : List (Str × Value)} {fI : Addr}
    (hC : hp.get? C = some (excClassObj n0 q0 C N0 bs0 bm hd0 sn0 sb0 ab0 cl0 dd0 c0 c1 c2 c3 c5 nid)) (arg : Bind.checkArgs nid ⟨.any, B, B, .cls, [⟨"args", .varPos, false⟩, ⟨"kwargs", .varKw, false⟩]⟩ ⟨.ref C :: vs, kw⟩ = pure ())
    (lk : PySem.W.Looks (model prog w) hp (typeLookup (.ref C) "__init__") (some (.ref fI))) (bd : ∀ self, PySem.W.Looks (model prog w) hp (bindSpecial (.ref fI) self) (.ref fI, [self])) (few : vs.length ≤ sizeLine)
    (go : codeAny (model prog w) (A.under (.builtin "type.__call__" ⟨.ref C :: vs, kw⟩)) (.call (.ref fI) ⟨.ref (hp.objs.size + 1) :: vs, kw⟩) (PySem.W.InitBack (hp.objs.size + 1) R)
      ⟨(hp.push (xTup vs)).push (xObj C hp.objs.size), gs, dr, tk, sys⟩) : codeAny (model prog w) A (.call (.ref C) ⟨vs, kw⟩) R ⟨hp, gs, dr, tk, sys⟩ := by
  have s1 := tc_lookup
  have s2 := tc_bind (.ref C)
  have s3 : (⟨hp, gs, dr, tk, sys⟩ : Shared).TypeIs (.ref C) "type" := ⟨_, hC, rfl⟩
  apply codeAny_of_tree
  show wpAny _ _ (callAny (.ref C) _) _ _ _
  repeat (any_goals (first
    | assumption
    | with_reducible refine wpAny_loadPart_at hC ?_
    | wp_step))
  refine And.intro rfl (codeAny_call_builtin_at (Code.quiet_builtin _ (by decide +kernel)) entry_typeCall (chkCall hC ?_))
  refine runType FB same hC arg lk bd few (codeAny_mono go ?_)
  intro r s' z
  rcases r with e | fl
  · exact z
  · cases fl with
    | ret v => exact z
    | next => exact z
    | brk => exact z
    | cont => exact z
end
end Al
/-! an own exception that is made, with one attribute or none -/
namespace Al
open PySem PySem.Spec PyProof.Rows L2
/-- what the written part says of a class of errors -/
structure XC (K : PySem.W.Frag) (C : Addr) : Prop where
  bse : ∃ B nid iid tl, ExcBaseFacts B nid iid tl ∧ StoreFacts B tl "object.__setattr__" "object" ∧ PySem.W.excInitIn K C tl nid = true ∧ PySem.W.excOver K C tl = true ∧
    (∀ vs kw, Bind.checkArgs nid ⟨.any, B, B, .cls, [⟨"args", .varPos, false⟩, ⟨"kwargs", .varKw, false⟩]⟩ ⟨.ref C :: vs, kw⟩ = pure ()) ∧
    (PySem.W.findIn K (.ref C) "__init__" = some (some (.builtin iid)) ∨ ∃ fI, PySem.W.findIn K (.ref C) "__init__" = some (some (.ref fI)))
  dct : PySem.W.hasDictIn K C = true
  sa : PySem.W.findIn K (.ref C) "__setattr__" = some (some (.builtin "object.__setattr__"))
  ga : PySem.W.findIn K (.ref C) "__getattribute__" = some (some (.builtin "BaseException.__getattribute__"))
  gt : PySem.W.findIn K (.ref C) "__getattr__" = some none
  sub : PySem.W.subIn K (.ref C) (.type "BaseException") = some true
  kc : PySem.W.findIn K (.ref C) "__class__" = some (some (.builtin "object.__class__"))
  ob : PySem.W.mroIn K C (.type "object") = some true
  kp : PySem.W.keepIn K (.ref C) = true
section
open Builtin Builtin.ObjectAttr
variable {prog : Program} {w : World} {A : Around} {R : Result → Shared → Prop} {hp : Heap} {gs : Array GenState} {dr : Drawn} {tk : Nat} {sys : OsState}
theorem osaX {K : PySem.W.Frag} {B : String} {tl : List Value} {nm : Str} {t0 : Tok} {v : Value} {x C : Addr} {fv : Array Value} (SF : StoreFacts B tl "object.__setattr__" "object") (KX : K.In hp) (hx : hp.get? x = some { cls := .ref C, data := .fields fv })
    (ov : PySem.W.excOver K C tl = true) (hd : PySem.W.hasDictIn K C = true) (no : PySem.W.findIn K (.ref C) nm = some none)
    (fin : ∀ h' tk' dx, (∀ b o, b ≠ x → hp.get? b = some o → h'.get? b = some o) → hp.objs.size ≤ dx → dx ≠ x → h'.get? x = some { cls := .ref C, dict := some dx, data := .fields fv } →
      h'.Ns1 dx (fun y => if y = nm then some v else none) → R (.ok (.ret .none)) ⟨h', gs, dr, tk', sys⟩) : codeAny (model prog w) A (.call (.builtin "object.__setattr__") ⟨[.ref x, .str nm t0, v], []⟩) R ⟨hp, gs, dr, tk, sys⟩ := by
  have lt : x ≠ hp.objs.size := Nat.ne_of_lt (Heap.lt_size hx)
  obtain ⟨cd, hc, hdd⟩ := PySem.W.any_some hd
  have inst : PySem.W.InstAt hp x { cls := .ref C, data := .fields fv } C none := ⟨hx, rfl, rfl, trivial⟩
  have tkr : PySem.W.takerIn K C nm = some none := by
    unfold PySem.W.takerIn
    rw [no]
    rfl
  refine PySem.W.osa_openX SF KX inst ov tkr fun b => ?_
  have lc : PySem.W.Looks (model prog w) hp (classData C) cd := PySem.W.looks_clsIn KX hc
  obtain ⟨cn, cb, cm, cns, cq, chd, cs, csb, ca, cc, cdel⟩ := cd
  dsimp only at hdd
  subst hdd
  show wpAny _ _ (storeInOwnDict (.ref x) (.ref C) (.str nm t0) nm v b) _ _ _
  unfold storeInOwnDict ownDictForStores
  repeat (first
    | with_reducible refine PySem.HandSPX.store_in_new ?_ ?_
    | with_reducible refine wpAny_loadPart_at hx ?_
    | with_reducible refine lc.at ?_
    | wp_step)
  · exact ⟨_, #[], _, (Heap.get?_update_ne _ _ _ _ lt.symm).trans (Heap.get?_push_at rfl rfl), rfl, fun e he => absurd he (by simp), fun _ => rfl⟩
  · intro h2 tk2 ns2 same
    have px : (hp.push { cls := .type "dict", data := .dict #[] }).get? x = some { cls := .ref C, data := .fields fv } := Heap.get?_push_of_some _ hx
    refine fin h2 tk2 hp.objs.size ?_ (Nat.le_refl _) lt.symm ?_ ns2
    · intro b o nb z
      rw [same.2 b (Nat.ne_of_lt (Heap.lt_size z)), Heap.get?_update_ne _ _ _ _ nb]
      exact Heap.get?_push_of_some _ z
    · rw [same.2 x lt]
      exact Heap.get?_update_self _ px rfl
end
section
variable {X : Cx} {pins : List (Addr × Obj)} {σ : L2.St} {H : Hp} {s : Shared} {a C dx : Addr} {f : Str} {y : V} {u : Value} {E : Value → Shared → Prop} {A : Around}
/-- self.f = y, the first one, whatever built-in class stands above -/
theorem xst_new {Q : Unit → Shared → Prop} (T : XC X.K C) (I : Inv X pins σ H s) (e : H a = some (exo a C none)) (no : PySem.W.findIn X.K (.ref C) f = some none) (ry : RelV y u)
    (fin : ∀ dx s', H dx = none → dx ≠ a → Inv X pins σ (upd (upd H dx (exd dx [(f, y)])) a (exo a C (some dx))) s' → Q () s') : wpAny (model X.prog X.w) A (setAttr (.ref a) f u) Q E s := by
  obtain ⟨B, nid, iid, tl, _, SF, _, ov, _⟩ := T.bse
  obtain ⟨t1, ho⟩ := exo_at I.hok e
  obtain ⟨hp, gs, dr, tk, sys⟩ := s
  refine PySem.W.set_plain I.kIn (ox := { cls := .ref C, dict := none, data := .fields #[.ref t1, .none, .none, .none, .bool false, .none] }) (od := none) ⟨ho, rfl, rfl, trivial⟩ T.sa ?_
  refine osaX SF I.kIn ho ov T.dct no fun h2 tk2 dx kp le ne hx ns => ?_
  have fr : H dx = none := I.hok.fresh le
  have old : ∀ {b : Addr} {o : Obj}, hp.get? b = some o → b ≠ dx := fun {b o} z q => by
    rw [q] at z
    exact absurd (Heap.lt_size z) (Nat.not_lt.mpr le)
  have nota : ∀ {b : Addr}, H b = none → b ≠ a := fun {b} z q => by
    rw [q, e] at z
    cases z
  -- what is neither a nor dx is told as before
  have same : ∀ {b : Addr} {o : HO}, H b = some o → exo a C none ≠ o → upd (upd H dx (exd dx [(f, y)])) a (exo a C (some dx)) b = some o := fun {b o} z d => by
    rw [upd_ne (at_ne e z d), upd_ne (ne_of_none z fr)]
    exact z
  have U : Un X.fs [] H (upd (upd H dx (exd dx [(f, y)])) a (exo a C (some dx))) hp h2 := by
    constructor
    · intro b o z n _ _
      exact kp b o (nota n) z
    · intro b o z n _ _
      exact ⟨o.slots, kp b o (nota n) z⟩
    · intro b o z n _
      rw [upd_ne (nota n), upd_ne (old z)]
      exact n
    · intro b o z _
      by_cases q : b = a
      · subst q
        exact ⟨_, hx⟩
      · exact ⟨o, kp b o q z⟩
    · intro b xs z
      exact same z exo_tup
    · intro b o v z
      exact same z exo_frz
    · intro b p z
      exact ⟨#[], by rw [same z exo_tbl]; simp⟩
  refine fin dx _ fr ne (I.un (t' := tk2) U ?_)
  intro b o z
  by_cases q : b = a
  · subst q
    rw [upd_same] at z
    cases z
    exact exo_ok hx
  · rw [upd_ne q] at z
    by_cases q2 : b = dx
    · subst q2
      rw [upd_same] at z
      cases z
      exact exd_ok ns (relO_put (fs := []) ry fun g => True.intro)
    · rw [upd_ne q2] at z
      refine (I.hok b o z).stay ?_ ?_ ?_
      · intro c v hc
        refine kp c v ?_
        rcases hc with hc | hc
        · rw [hc]
          exact q
        · exact at_ne e hc exo_own
      · intro c hc
        exact same hc exo_own
      · intro c xs hc
        exact same hc exo_tup
end
end Al
/-! errors made by position, by name, of nothing -/
namespace Al
open PySem PySem.Spec PyProof.Rows L2
def iArg (f : Str) (p1 p2 : Pos) : Arguments := { posonlyargs := [], args := [{ arg := "self", annotation := none, pos := p1 }, { arg := f, annotation := none, pos := p2 }], vararg := none, kwonlyargs := [], kw_defaults := [], kwarg := none, defaults := [] }
def iBdy (f : Str) (p1 p2 p3 p4 : Pos) : List Stmt := [.Assign [.Attribute (.Name "self" p1) f p2] (.Name f p3) p4]
def iScp (f : Str) : Scope := { kind := ScopeKind.function, names := [("self", .local), (f, .local)], isGenerator := false, isCoroutine := false, more := [] }
/-- a class whose __init__ keeps the one thing that is given -/
structure XI (K : PySem.W.Frag) (C fI : Addr) (f : Str) : Prop where
  x : XC K C
  at_ : PySem.W.findIn K (.ref C) "__init__" = some (some (.ref fI))
  ty : PySem.W.typeIn K (.ref fI) = some (.type "function")
  no : PySem.W.findIn K (.ref C) f = some none
  fn : ∃ oc od kV doc pm an cdv ct osl ql p1 p2 p3 p4 p5 p6, K.lookup fI = some ⟨oc, od, .func (PySem.W.fnOf "__init__" ql (iArg f p1 p2) (iBdy f p3 p4 p5 p6) (iScp f) .none kV doc pm an cdv ct), osl⟩ ∧ PySem.W.codeIn K cdv ql = true
def tXst (K : PySem.W.Frag) (f : Str) (to te : TE) : TS := fun D σ H => te σ H fun y H1 => to σ H1 fun x H2 => ∃ a C : Addr, x = .ref a ∧ XC K C ∧ PySem.W.findIn K (.ref C) f = some none ∧ H2 a = some (exo a C none) ∧
  ∀ dx, H2 dx = none → dx ≠ a → D.nx σ (upd (upd H2 dx (exd dx [(f, y)])) a (exo a C (some dx)))
theorem ps_xst {X : Cx} {o e : Expr} {to te : TE} {f : Str} {p' pos : Pos} (ho : PE X o to) (he : PE X e te) (hs : swapsWith e (some (.Attribute o f p')) pos.line X.env = pure false := by rfl) : PS X (.Assign [.Attribute o f p'] e pos) (tXst X.K f to te) := by
  constructor
  intro pins s σ H D I h
  refine plainObj_wpAny_Assign_Attribute (thn (he.run pins s σ H _ I h) ?_) hs
  rintro v s1 ⟨y, H1, I1, r1, q1⟩
  refine thn (ho.run pins s1 σ H1 _ I1 q1) ?_
  rintro u s2 ⟨x, H2, I2, r2, a, C, ex, T, no, ea, q⟩
  subst ex
  have eu : u = Value.ref a := r2
  subst eu
  exact xst_new T I2 ea no r1 fun dx s' n d J => ⟨σ, _, J, q dx n d⟩
def spI (C : Addr) (f : Str) : Sp := fun vs H Q _ => ∃ a y, vs = [.ref a, y] ∧ H a = some (exo a C none) ∧ ∀ dx, H dx = none → dx ≠ a → Q .non (upd (upd H dx (exd dx [(f, y)])) a (exo a C (some dx)))
section
variable {P : Program} {w : World} {K : PySem.W.Frag} {mg : Str → Option Value} {base : Heap} {C fI : Addr} {f : Str}
theorem scI (hf : f = "given" ∨ f = "index") : FnScope ["self", f] ["self", f] (iScp f) := by
  rcases hf with rfl | rfl <;> exact ⟨rfl, rfl, rfl, by decide +kernel, rfl, by decide +kernel, by decide +kernel⟩
theorem fnI (T : XI K C fI f) (hf : f = "given" ∨ f = "index") : ∃ fd, FnG P w K mg base CX0 1 fI fd ["self", f] (spI C f) ∧ (∀ s u v, BindsTo s fd ⟨[u, v], []⟩ ((["self", f] : List Str).zip [u, v])) ∧ (∀ s u v, BindsTo s fd ⟨[u], [(f, v)]⟩ ((["self", f] : List Str).zip [u, v])) := by
  obtain ⟨oc, od, kV, doc, pm, an, cdv, ct, osl, ql, p1, p2, p3, p4, p5, p6, lk, hcd⟩ := T.fn
  have S := scI hf
  refine ⟨_, fn_ofG lk hcd S ?_ ?_, ?_, ?_⟩
  · rintro vs H Q E ⟨a, y, rfl, _⟩
    rfl
  · rintro A outer s H vs Q E gd hr ⟨a, y, rfl, ea, q⟩
    refine ⟨tXst K f (tVar 0) (tVar 1), ?_, ?_⟩
    · rcases hf with rfl | rfl
      · exact pss_one (ps_xst (pe_var rfl (.inl rfl) (by decide) (by decide)) (pe_var rfl (.inl rfl) (by decide) (by decide)))
      · exact pss_one (ps_xst (pe_var rfl (.inl rfl) (by decide) (by decide)) (pe_var rfl (.inl rfl) (by decide) (by decide)))
    · exact ⟨y, rfl, .ref a, rfl, a, C, rfl, T.x, T.no, ea, q⟩
  · rcases hf with rfl | rfl <;> exact fun s u v => .of_eq rfl
  · rcases hf with rfl | rfl <;> exact fun s u v => .of_eq rfl
end
end Al
/-! errors made: rules -/
namespace Al
open PySem PySem.Spec PyProof.Rows L2
section
variable {X : Cx} {pins : List (Addr × Obj)} {σ : L2.St} {H : Hp} {s : Shared} {C fI : Addr} {f : Str} {y : V} {u : Value} {Q : VK}
theorem under_guards {A : Around} {as : Args} (gd : A.guards = some []) : (A.under (.builtin "type.__call__" as)).guards = some [] := by
  unfold Around.under
  dsimp only
  rw [gd]
  rfl
/-- the heap with a new error -/
abbrev hEx (H : Hp) (a dx C : Addr) (f : Str) (y : V) : Hp := upd (upd H dx (exd dx [(f, y)])) a (exo a C (some dx))
theorem hEx_eq {H : Hp} {a dx C : Addr} {o : HO} {f : Str} {y : V} (d : dx ≠ a) : upd (upd (upd H a o) dx (exd dx [(f, y)])) a (exo a C (some dx)) = hEx H a dx C f y := by
  funext b
  show upd (upd (upd H a o) dx (exd dx [(f, y)])) a (exo a C (some dx)) b = upd (upd H dx (exd dx [(f, y)])) a (exo a C (some dx)) b
  by_cases h : b = a
  · subst h
    rw [upd_same, upd_same]
  · rw [upd_ne h, upd_ne h]
    by_cases h2 : b = dx
    · subst h2
      rw [upd_same, upd_same]
    · rw [upd_ne h2, upd_ne h2, upd_ne h]
theorem run_mk {us : List Value} {kw : List (Str × Value)} (T : XI X.K C fI f) (hf : f = "given" ∨ f = "index") (gd : X.A.guards = some []) (hr : Room 2 X.A) (I : Inv X pins σ H s) (ry : RelV y u) (ak : us = [u] ∧ kw = [] ∨ us = [] ∧ kw = [(f, u)])
    (h : ∀ a dx, H a = none → H dx = none → dx ≠ a → Q (.ref a) (hEx H a dx C f y)) : wpAny (model X.prog X.w) X.A (call (.ref C) us kw) (EP X pins σ Q) X.xe s := by
  obtain ⟨B, nid, iid, tl, FB, SF, ini, ov, arg, _⟩ := T.x.bse
  obtain ⟨fd, F, b1, b2⟩ := fnI (P := X.prog) (w := X.w) (K := X.K) (mg := X.mg) (base := X.base) T hf
  obtain ⟨nm, N', qn, bs, bm, hdct, sn, sb, ab, col, dd, k0, k1, k2, k3, k5, hC, hT⟩ := PySem.W.excInit_of I.kIn ini
  have few : us.length ≤ sizeLine := by
    rw [sizeLine_eq]
    rcases ak with ⟨e, _⟩ | ⟨e, _⟩ <;> rw [e] <;> simp
  obtain ⟨hp, gs, dr, tk, sys⟩ := s
  have le : hp.objs.size ≤ hp.objs.size + 1 := Nat.le_succ _
  have na : H (hp.objs.size + 1) = none := I.hok.fresh le
  have kk : ∀ b o, hp.get? b = some o → ((hp.push (xTup us)).push (xObj C hp.objs.size)).get? b = some o := fun b o z => Heap.get?_push_of_some _ (Heap.get?_push_of_some _ z)
  have atX : ((hp.push (xTup us)).push (xObj C hp.objs.size)).get? (hp.objs.size + 1) = some (xObj C hp.objs.size) := by heap_get
  have I2 : Inv X pins σ (upd H (hp.objs.size + 1) (exo (hp.objs.size + 1) C none)) ⟨(hp.push (xTup us)).push (xObj C hp.objs.size), gs, dr, tk, sys⟩ :=
    I.laid (t' := tk) (a := hp.objs.size + 1) (o := exo (hp.objs.size + 1) C none) (h' := (hp.push (xTup us)).push (xObj C hp.objs.size)) kk le (exo_ok atX)
  have vals : Vals [V.ref (hp.objs.size + 1), y] [Value.ref (hp.objs.size + 1), u] := .cons rfl (.cons ry .nil)
  have bnd : BindsTo ⟨(hp.push (xTup us)).push (xObj C hp.objs.size), gs, dr, tk, sys⟩ fd ⟨Value.ref (hp.objs.size + 1) :: us, kw⟩ ((["self", f] : List Str).zip [Value.ref (hp.objs.size + 1), u]) := by
    rcases ak with ⟨e1, e2⟩ | ⟨e1, e2⟩
    · subst e1 e2
      exact b1 _ _ _
    · subst e1 e2
      exact b2 _ _ _
  have want : spI C f [V.ref (hp.objs.size + 1), y] (upd H (hp.objs.size + 1) (exo (hp.objs.size + 1) C none)) (fun v H' => v = .non ∧ Q (.ref (hp.objs.size + 1)) H') (fun _ _ _ => False) := by
    refine ⟨_, y, rfl, upd_same, fun dx n d => ⟨rfl, ?_⟩⟩
    rw [hEx_eq d]
    rw [upd_ne d] at n
    exact h _ dx na n d
  refine wpAny_call (runCall FB hT hC (arg us kw) (PySem.W.looks_findIn I.kIn T.at_) (fun self => PySem.W.bind_fn I.kIn self T.ty) few ?_)
  refine codeAny_mono (F.run _ X.stack _ _ ⟨Value.ref (hp.objs.size + 1) :: us, kw⟩ [Value.ref (hp.objs.size + 1), u] _ _ _ (under_guards gd) ((hr.mono (by decide)).make C us kw) (I2.env0.make C us kw) bnd vals want) ?_
  intro r s' z
  rcases r with er | fl
  · exact (show False from z).elim
  · cases fl with
    | ret v0 =>
      obtain ⟨v, H', I3, rv, ev, q⟩ := I2.after z
      obtain ⟨ev⟩ := ev
      exact ⟨rv, V.ref (hp.objs.size + 1), H', I3, rfl, q⟩
    | next => exact (show False from z).elim
    | brk => exact (show False from z).elim
    | cont => exact (show False from z).elim
end
section
variable {X : Cx} {D : Ct} {env : En} {cs : Cells} {k : KE} {pos p kp : Pos} {e : Expr} {x : Str} {c : Str} {f : Str} {fI : Addr}
theorem ex_post {ca : Str → Addr} {K : PySem.W.Frag} {ps : List Addr} {σ : L2.St} {G R H : Hp} {Q : VK} {d : Da} {y : V} (r : Rep ca K env cs ps σ G R H) (q : Post ca K env ps σ G R k Q) (h : k (.im (.exc c [f] [d])) cs) (o : Dn ca K G y d) :
    ∀ a dx, H a = none → H dx = none → dx ≠ a → Q (.ref a) (hEx H a dx (ca c) f y) := by
  intro a dx na nd ne
  have g1 := Ex.new (o := exd dx [(f, y)]) (r.wd.freshG nd)
  have r1 := r.newG (o := exd dx [(f, y)]) nd
  have na1 : upd H dx (exd dx [(f, y)]) a = none := by
    rw [upd_ne (Ne.symm ne)]
    exact na
  have g2 := Ex.new (o := exo a (ca c) (some dx)) (r1.wd.freshG na1)
  refine q _ cs _ _ R _ h (Gr.data (g1.trans g2)) (r1.newG na1) ?_
  refine Dn.exc1 (fs := [(f, y)]) upd_same (g2 _ _ upd_same) rfl (.cons (o.mono (g1.trans g2)) .nil)
/-- C(e) -/
theorem ax_mk (T : XI X.K (D.ca c) fI f) (hf : f = "given" ∨ f = "index") (gd : X.A.guards = some []) (hr : Room 2 X.A) (hg : Gl X x) (hm : X.mg x = some (.ref (D.ca c))) (h : AX X D e env cs fun v c1 => ∃ d, v = .im d ∧ k (.im (.exc c [f] [d])) c1)
    (hdb : (x == ("__debug__" : Str)) = false := by decide) (he : starEach [e] X.env = (false, eval e X.env) :: starEach [] X.env := by rfl) (hpl : (backTo pos (starEach [] X.env)).any (·.1) = false := by rfl) : AX X D (.Call (.Name x p) [e] [] pos) env cs k := by
  constructor
  intro pins s σ H Q I ⟨ps, G, R, r, px, q⟩
  refine wpAny_Call_Name_kw (ld_glob I hg hm (PySem.W.callWith_K (h₀ := X.base) I.ok.mod.kin T.x.kp ?_ he hpl) hdb)
  refine thn ((pa_cons h pa_nil he).run pos pins s σ H (fun vs H1 => ∃ y, vs = [y] ∧ ∀ a dx, H1 a = none → H1 dx = none → dx ≠ a → Q (.ref a) (hEx H1 a dx (D.ca c) f y)) I ⟨ps, G, R, r, px, fun v c1 y G1 R1 H1 ⟨d, ed, hk⟩ g1 r1 o1 => ?_⟩) ?_
  · subst ed
    exact ⟨y, rfl, ex_post r1 (q.on g1) hk o1⟩
  · rintro us s1 ⟨vs, H1, I1, r1, y, ey, q1⟩
    subst ey
    match us, r1 with
    | [u], .cons ry .nil => exact ⟨I1.kIn, run_mk T hf gd hr I1 ry (.inl ⟨rfl, rfl⟩) q1⟩
/-- C(f=e) -/
theorem ax_mkK (T : XI X.K (D.ca c) fI f) (hf : f = "given" ∨ f = "index") (gd : X.A.guards = some []) (hr : Room 2 X.A) (hg : Gl X x) (hm : X.mg x = some (.ref (D.ca c))) (h : AX X D e env cs fun v c1 => ∃ d, v = .im d ∧ k (.im (.exc c [f] [d])) c1)
    (hdb : (x == ("__debug__" : Str)) = false := by decide) (hall : (backToKw pos (keywordEach [⟨some f, e, kp⟩] X.env)).all (·.1.isSome) = true := by rfl) (hks : (backToKw pos (keywordEach [⟨some f, e, kp⟩] X.env)).filterMap (·.1) = [f] := by rfl)
    (hpl : ((backTo pos (starEach [] X.env)).any (·.1) || (backToKw pos (keywordEach [⟨some f, e, kp⟩] X.env)).any (·.1.isNone)) = false := by rfl) : AX X D (.Call (.Name x p) [] [⟨some f, e, kp⟩] pos) env cs k := by
  constructor
  intro pins s σ H Q I ⟨ps, G, R, r, px, q⟩
  refine wpAny_Call_Name_kw (ld_glob I hg hm (PySem.W.callWith_KW0 (h₀ := X.base) I.ok.mod.kin T.x.kp hall ?_ hpl) hdb)
  refine thn ((pk_cons h pk_nil).run pos pins s σ H (fun vs H1 => ∃ y, vs = [y] ∧ ∀ a dx, H1 a = none → H1 dx = none → dx ≠ a → Q (.ref a) (hEx H1 a dx (D.ca c) f y)) I ⟨ps, G, R, r, px, fun v c1 y G1 R1 H1 ⟨d, ed, hk⟩ g1 r1 o1 => ?_⟩) ?_
  · subst ed
    exact ⟨y, rfl, ex_post r1 (q.on g1) hk o1⟩
  · rintro us s1 ⟨vs, H1, I1, r1, y, ey, q1⟩
    subst ey
    rw [hks]
    match us, r1 with
    | [u], .cons ry .nil => exact ⟨I1.kIn, run_mk T hf gd hr I1 ry (.inr ⟨rfl, rfl⟩) q1⟩
end
end Al
/-! errors made of nothing, read, asked for their class -/
namespace Al
open PySem PySem.Spec PyProof.Rows L2
section
variable {X : Cx} {D : Ct} {env : En} {cs : Cells} {k : KE} {pos p kp : Pos} {e b : Expr} {x : Str} {c : Str} {f : Str}
/-- C(), C without an own __init__ -/
structure X0 (K : PySem.W.Frag) (C : Addr) : Prop where
  x : XC K C
  at_ : ∃ B nid iid tl, ExcBaseFacts B nid iid tl ∧ PySem.W.excInitIn K C tl nid = true ∧ PySem.W.findIn K (.ref C) "__init__" = some (some (.builtin iid))
theorem ax_mk0 (T : X0 X.K (D.ca c)) (hg : Gl X x) (hm : X.mg x = some (.ref (D.ca c))) (h : k (.im (.exc c [] [])) cs) (hdb : (x == ("__debug__" : Str)) = false := by decide) : AX X D (.Call (.Name x p) [] [] pos) env cs k := by
  constructor
  intro pins s σ H Q I ⟨ps, G, R, r, px, q⟩
  obtain ⟨B, nid, iid, tl, FB, ini, hi⟩ := T.at_
  obtain ⟨nm, N', qn, bs, bm, hdct, sn, sb, ab, col, dd, k0, k1, k2, k3, k5, hC, hT⟩ := PySem.W.excInit_of I.kIn ini
  have hi' := PySem.W.looks_findIn (M := model X.prog X.w) I.kIn hi
  refine wpAny_Call_Name_kw (ld_glob I hg hm (PySem.W.callWith_K0 I.kIn T.x.kp ?_) hdb)
  obtain ⟨hp, gs, dr, tk, sys⟩ := s
  refine PySem.W.call_B FB hT hC hi' (by rw [sizeLine_eq]; simp) fun h' kp2 he ht => ?_
  have na : H (hp.objs.size + 1) = none := I.hok.fresh (Nat.le_succ _)
  have J := I.laid (t' := tk) (a := hp.objs.size + 1) (o := exo (hp.objs.size + 1) (D.ca c) none) (h' := h') kp2 (Nat.le_succ _) (exo_ok he)
  have g1 := Ex.new (o := exo (hp.objs.size + 1) (D.ca c) none) (r.wd.freshG na)
  exact ⟨V.ref (hp.objs.size + 1), _, J, rfl, q _ cs _ _ R _ h (Gr.data g1) (r.newG na) (Dn.exc0 upd_same)⟩
/-- a class of the program, a built-in type: as values -/
theorem ax_gcl (hg : Gl X x) (hm : X.mg x = some (.ref (D.ca c))) (h : k (.im (.cl c)) cs) (hd : (x == ("__debug__" : Str)) = false := by decide) : AX X D (.Name x pos) env cs k :=
  (pe_glob hg hm (show RelV (.ref (D.ca c)) _ from rfl) hd).imp fun σ H Q ⟨ps, G, R, r, px, q⟩ => q _ cs _ G R H h (Gr.refl ps G R) r (.cl c)
theorem ax_gty {n : String} (hg : Gl X x) (hm : X.mg x = none) (hv : bootBuiltins x = some (.type n)) (h : k (.im (.ty n)) cs) (hn : x ≠ "__name__" := by decide) (hd : (x == ("__debug__" : Str)) = false := by decide) : AX X D (.Name x pos) env cs k :=
  (pe_bltn (v := .ty n) hg hm hv rfl hn hd).imp fun σ H Q ⟨ps, G, R, r, px, q⟩ => q _ cs _ G R H h (Gr.refl ps G R) r (.ty n)
/-- e.f of an error with the one attribute f -/
theorem ax_exa (h : AX X D e env cs fun v c1 => ∃ c d, v = .im (.exc c [f] [d]) ∧ XC X.K (D.ca c) ∧ PySem.W.findIn X.K (.ref (D.ca c)) f = some none ∧ k (.im d) c1) (hb : attributeBase e f X.env (eval e X.env) = eval e X.env := by rfl) : AX X D (.Attribute e f pos) env cs k := by
  constructor
  intro pins s σ H Q I ⟨ps, G, R, r, px, q⟩
  refine attr_of hb (thn (h.run pins s σ H (fun v H1 => ∃ a C dx y, v = .ref a ∧ XC X.K C ∧ PySem.W.findIn X.K (.ref C) f = some none ∧ H1 a = some (exo a C (some dx)) ∧ H1 dx = some (exd dx [(f, y)]) ∧ Q y H1) I ⟨ps, G, R, r, px, ?_⟩) ?_)
  · intro v c1 w G1 R1 H1 ⟨c, d, ev, T, no, hk⟩ g1 r1 o1
    subst ev
    cases o1 with
    | exc1 ha hd he hl =>
      rename_i a dx fs
      match fs, he, hl with
      | [(f', y)], he, .cons oy .nil =>
        have e1 : f' = f := List.head_eq_of_cons_eq he
        subst e1
        exact ⟨a, D.ca c, dx, y, rfl, T, no, r1.wd.g _ _ ha, r1.wd.g _ _ hd, q _ c1 y G1 R1 H1 hk g1 r1 oy⟩
  · rintro u s1 ⟨v, H1, I1, rv, a, C, dx, y, ev, T, no, ha, hd, hq⟩
    subst ev
    have eu : u = Value.ref a := rv
    subst eu
    obtain ⟨t1, ho⟩ := exo_at I1.hok ha
    obtain ⟨mA, hns, rel⟩ := exd_at I1.hok hd
    obtain ⟨od, hod, hl⟩ := lookIn_ns hns
    have rl : RelO (some y) (mA f) := by
      have z := rel f
      rw [lookup_put, if_pos rfl] at z
      exact z
    obtain ⟨u, hu, ru⟩ := RelO.some_of rl
    have J : PySem.W.InstAt s1.heap a { cls := .ref C, dict := some dx, data := .fields #[.ref t1, .none, .none, .none, .bool false, .none] } C (some od) := ⟨ho, rfl, rfl, hod⟩
    refine PySem.HandSPX.exc_get I1.kIn J T.ga T.gt T.sub (PySem.W.findObj_own T.dct no rfl (by rw [hl, hu])) (handed_of ru) ?_
    exact ⟨y, H1, I1.tok _, ru, hq⟩
/-- isinstance(e, C) of an error -/
def rIsx (K : PySem.W.Frag) : List V → Hp → VK → Prop := fun xs H Q => ∃ a C T u z, xs = [.ref a, T] ∧ ClsV T u ∧ XC K C ∧ (H a = some (exo a C none) ∨ ∃ dx fs, H a = some (exo a C (some dx)) ∧ H dx = some (exd dx fs)) ∧
  PySem.W.specialIn K (.builtin "object.__class__") "__get__" = some (some (.builtin "getset_descriptor.__get__")) ∧ PySem.W.takesIn K (.builtin "object.__class__") = some true ∧ PySem.W.kitOne K (.ref C) u = some z ∧ Q (.bl z) H
theorem cr_isx : CallR X (.builtin "isinstance") (rIsx X.K) := by
  rintro pins s σ H xs us Q I rv ⟨a, C, T, u, z, rfl, ku, xc, at_, g1, g2, e, q⟩
  obtain ⟨u1, u2, rfl, r1, r2⟩ := vals2 rv
  have e2 := ku.eq r2
  subst e2
  have e1 : u1 = Value.ref a := r1
  subst e1
  have hcl : (PySem.W.clsIn X.K C).isSome = true := by
    obtain ⟨cd, h1, _⟩ := PySem.W.any_some xc.dct
    rw [h1]
    rfl
  have inst : ∃ ox od, PySem.W.InstAt s.heap a ox C od := by
    rcases at_ with h | ⟨dx, fs, h1, h2⟩
    · obtain ⟨t1, ho⟩ := exo_at I.hok h
      exact ⟨_, none, ho, rfl, rfl, trivial⟩
    · obtain ⟨t1, ho⟩ := exo_at I.hok h1
      obtain ⟨mA, hns, rel⟩ := exd_at I.hok h2
      obtain ⟨od, hod, hl⟩ := lookIn_ns hns
      exact ⟨_, some od, ho, rfl, rfl, hod⟩
  obtain ⟨ox, od, J⟩ := inst
  refine PySem.W.kia_one (PySem.W.kitx_exc (ox := ox) (od := od) hcl xc.ga xc.gt xc.sub xc.kc g1 g2 xc.ob) I.kIn J e (fun z => nomatch z) fun tk => ?_
  exact ⟨.bl z, H, I.tok tk, rfl, q⟩
/-- what is known of the classes: sb c T, whether an error of class c is one of T -/
structure XKl (K : PySem.W.Frag) (ca : Str → Addr) (sb : Str → Da → Option Bool) : Prop where
  g1 : PySem.W.specialIn K (.builtin "object.__class__") "__get__" = some (some (.builtin "getset_descriptor.__get__"))
  g2 : PySem.W.takesIn K (.builtin "object.__class__") = some true
  ow : ∀ c T z, sb c (.cl T) = some z → PySem.W.kitOne K (.ref (ca c)) (.ref (ca T)) = some z
  bi : ∀ c n z, sb c (.ty n) = some z → PySem.W.kitOne K (.ref (ca c)) (.type n) = some z
def sIsx (K : PySem.W.Frag) (ca : Str → Addr) (sb : Str → Da → Option Bool) : SemA := fun as cs k => ∃ c ks ds T z, as = [.im (.exc c ks ds), .im T] ∧ sb c T = some z ∧ XC K (ca c) ∧ ((∃ n, T = .ty n) ∨ ∃ n, T = .cl n) ∧ k (.im (.bl z)) cs
theorem cs_isx {ca : Str → Addr} {K : PySem.W.Frag} {sb : Str → Da → Option Bool} (W : XKl K ca sb) : CbS ca K (rIsx K) (sIsx K ca sb) := by
  intro env cs ps σ G R H as ws k Q r o ⟨c, ks, ds, T, z, e, hz, xc, hT, h⟩ q
  subst e
  obtain ⟨w, u, rfl, o1, o2⟩ := av2 o
  have fin : ∃ v, ClsV u v ∧ PySem.W.kitOne K (.ref (ca c)) v = some z := by
    rcases hT with ⟨n, e⟩ | ⟨n, e⟩
    · subst e
      cases o2
      exact ⟨_, .ty n, W.bi c n z hz⟩
    · subst e
      cases o2
      exact ⟨_, .own _, W.ow c n z hz⟩
  obtain ⟨v, kv, hv⟩ := fin
  cases o1 with
  | exc0 ha => exact ⟨_, ca c, u, v, z, rfl, kv, xc, .inl (r.wd.g _ _ ha), W.g1, W.g2, hv, r.same q h (.bl z)⟩
  | exc1 ha hd _ _ => exact ⟨_, ca c, u, v, z, rfl, kv, xc, .inr ⟨_, _, r.wd.g _ _ ha, r.wd.g _ _ hd⟩, W.g1, W.g2, hv, r.same q h (.bl z)⟩
theorem ax_isx {sb : Str → Da → Option Bool} {es : List Expr} (W : XKl X.K D.ca sb) (hg : Gl X "isinstance") (hm : X.mg "isinstance" = none) (h : AA X D (e :: es) env cs fun as c1 => sIsx X.K D.ca sb as c1 k)
    (he : starEach (e :: es) X.env = (false, eval e X.env) :: starEach es X.env := by rfl) (hpl : (backTo pos (starEach es X.env)).any (·.1) = false := by rfl) : AX X D (.Call (.Name "isinstance" p) (e :: es) [] pos) env cs k :=
  ax_cb cr_isx (cs_isx W) hg hm (by decide +kernel) h (by decide) (by decide) he hpl
end
end Al
/-! == and !=, in, repr -/
namespace Al
open PySem PySem.Spec PyProof.Rows L2
def kyP : Key → PyData
  | .inl i => PyData.int i
  | .inr x => PyData.str x
mutual
/-- data as the model's == and repr take it -/
def toP : Da → PyData
  | .bl b => .bool b
  | .int i => .int i
  | .str x => .str x
  | .tup l => .tuple (toPL l)
  | .lst l => .list (toPL l)
  | .scr ns => .list (ns.map .int)
  | .dic ks l => .dict ((ks.map kyP).zip (toPL l))
  | _ => .none
def toPL : List Da → List PyData
  | [] => []
  | d :: r => toP d :: toPL r
end
mutual
/-- of none, bools, ints, texts, tuples, lists -/
def okP : Da → Bool
  | .non => true
  | .bl _ => true
  | .int _ => true
  | .str _ => true
  | .tup l => okPL l
  | .lst l => okPL l
  | .scr _ => true
  | _ => false
def okPL : List Da → Bool
  | [] => true
  | d :: r => okP d && okPL r
end
section
variable {ca : Str → Addr} {K : PySem.W.Frag} {G H : Hp}
theorem dp_ints : ∀ ns : List Int, DpAll K H (ns.map V.int) (ns.map PyData.int)
  | [] => .nil
  | n :: ns => .cons (.int n) (dp_ints ns)
mutual
theorem dp_of (g : ∀ a o, G a = some o → H a = some o) : ∀ (d : Da) (v : V), Dn ca K G v d → okP d = true → Dp K H v (toP d)
  | .non, _, h, _ => by
    cases h
    exact .non
  | .bl b, _, h, _ => by
    cases h
    exact .bl b
  | .int i, _, h, _ => by
    cases h
    exact .int i
  | .str x, _, h, _ => by
    cases h
    exact .str x
  | .tup l, _, h, k => by
    cases h with
    | tup t dl => exact .tup (Ex.sqt g t) (dp_all g l _ dl k)
  | .lst l, _, h, k => by
    cases h with
    | lst t dl => exact .lst (.inl (.inl (g _ _ t))) (dp_all g l _ dl k)
  | .scr ns, _, h, _ => by
    cases h with
    | scr t => exact .lst (Ex.sql g t) (dp_ints ns)
  | .ty _, _, _, k => by cases k
  | .cl _, _, _, k => by cases k
  | .dic _ _, _, _, k => by cases k
  | .ins _ _ _, _, _, k => by cases k
  | .exc _ _ _, _, _, k => by cases k
theorem dp_all (g : ∀ a o, G a = some o → H a = some o) : ∀ (l : List Da) (vs : List V), DnL ca K G vs l → okPL l = true → DpAll K H vs (toPL l)
  | [], _, h, _ => by
    cases h
    exact .nil
  | d :: l, _, h, k => by
    cases h with
    | cons h1 h2 =>
      have k2 : okP d = true ∧ okPL l = true := by
        have z : (okP d && okPL l) = true := k
        rwa [Bool.and_eq_true] at z
      exact .cons (dp_of g d _ h1 k2.1) (dp_all g l _ h2 k2.2)
end
end
/-- the data of a value, a cell's content among them -/
def asD (cs : Cells) : AV → Option Da
  | .im d => some d
  | .ow j => match cs[j]? with
    | some (some l) => some (.lst l)
    | _ => none
theorem dp_av {ca : Str → Addr} {K : PySem.W.Frag} {env : En} {cs : Cells} {ps : List Addr} {σ : L2.St} {G R H : Hp} {x : AV} {v : V} {d : Da} (r : Rep ca K env cs ps σ G R H) (o : AVok ca K G ps v x) (e : asD cs x = some d) (k : okP d = true) : Dp K H v (toP d) := by
  cases x with
  | im d' =>
    have e' := Option.some.inj e
    subst e'
    exact dp_of r.wd.g _ _ o k
  | ow j =>
    obtain ⟨p, hp, rfl⟩ := o
    unfold asD at e
    dsimp only at e
    split at e
    · rename_i l hc
      have e' := Option.some.inj e
      subst e'
      obtain ⟨vs, hR, dl⟩ := r.cell j p l hp hc
      exact .lst (.inl (.inl (r.wd.r _ _ hR))) (dp_all r.wd.g l _ dl k)
    · cases e
/-- == (g = id), != (g = not) of data -/
def sEqv (g : Bool → Bool) : Sem2 := fun x y cs k => (∃ i j, x = .im (.str i) ∧ y = .im (.str j) ∧ k (.im (.bl (g (decide (i = j))))) cs) ∨
  ∃ d e, asD cs x = some d ∧ asD cs y = some e ∧ okP d = true ∧ okP e = true ∧ SeqAt.shaped (toP d) = true ∧ SeqAt.shaped (toP e) = true ∧ k (.im (.bl (g (PyData.eqv (toP d) (toP e))))) cs
theorem os_eqv {ca : Str → Addr} {K : PySem.W.Frag} {g : Bool → Bool} : OpS ca K (fun x y H Q => (scal x y = true ∧ Q (.bl (g (decide (x = y)))) H) ∨ ∃ d e, Dp K H x d ∧ Dp K H y e ∧ SeqAt.shaped d = true ∧ SeqAt.shaped e = true ∧ Q (.bl (g (PyData.eqv d e))) H) (sEqv g) := by
  intro env cs ps σ G R H x y v u k Q r ox oy h q
  rcases h with ⟨i, j, rfl, rfl, h⟩ | ⟨d, e, e1, e2, k1, k2, s1, s2, h⟩
  · have a1 := Dn.str_inv ox
    have a2 := Dn.str_inv oy
    subst a1 a2
    refine .inl ⟨rfl, ?_⟩
    have e : decide (V.str i = V.str j) = decide (i = j) := by
      rw [Bool.eq_iff_iff]
      simp
    show Q (.bl (g (decide (V.str i = V.str j)))) H
    rw [e]
    exact r.same q h (Dn.bl _)
  · exact .inr ⟨_, _, dp_av r ox e1 k1, dp_av r oy e2 k2, s1, s2, r.same q h (.bl _)⟩
section
variable {X : Cx} {C : Ct} {env : En} {cs : Cells} {k : KE} {kt : KT} {pos p : Pos} {e a b c : Expr} {es : List Expr}
theorem op_eqE (hu : X.A.units + 64 < cLine) : OpR X (compareOp .Eq) (fun x y H Q => (scal x y = true ∧ Q (.bl (id (decide (x = y)))) H) ∨ ∃ d e, Dp X.K H x d ∧ Dp X.K H y e ∧ SeqAt.shaped d = true ∧ SeqAt.shaped e = true ∧ Q (.bl (id (PyData.eqv d e))) H) := OpR.or op_eq (op_eqD hu)
theorem op_neE (hu : X.A.units + 64 < cLine) : OpR X (compareOp .NotEq) (fun x y H Q => (scal x y = true ∧ Q (.bl (not (decide (x = y)))) H) ∨ ∃ d e, Dp X.K H x d ∧ Dp X.K H y e ∧ SeqAt.shaped d = true ∧ SeqAt.shaped e = true ∧ Q (.bl (not (PyData.eqv d e))) H) := OpR.or op_ne (op_neD hu)
theorem ax_eq (hu : X.A.units + 64 < cLine) (h : AX X C a env cs fun x c1 => AX X C b env c1 fun y c2 => sEqv id x y c2 k) : AX X C (.Compare a [.Eq] [b] pos) env cs k := ax_cmp (op_eqE hu) os_eqv (nomark _) h
theorem ax_ne (hu : X.A.units + 64 < cLine) (h : AX X C a env cs fun x c1 => AX X C b env c1 fun y c2 => sEqv not x y c2 k) : AX X C (.Compare a [.NotEq] [b] pos) env cs k := ax_cmp (op_neE hu) os_eqv (nomark _) h
theorem at_eq (hu : X.A.units + 64 < cLine) (h : AX X C a env cs fun x c1 => AX X C b env c1 fun y c2 => sEqv id x y c2 fun v c3 => ∃ z, v = .im (.bl z) ∧ kt z c3) : AT X C (.Compare a [.Eq] [b] pos) env cs kt := at_cmpR (op_eqE hu) os_eqv (nomark _) h
theorem at_ne (hu : X.A.units + 64 < cLine) (h : AX X C a env cs fun x c1 => AX X C b env c1 fun y c2 => sEqv not x y c2 fun v c3 => ∃ z, v = .im (.bl z) ∧ kt z c3) : AT X C (.Compare a [.NotEq] [b] pos) env cs kt := at_cmpR (op_neE hu) os_eqv (nomark _) h
/-- i in [ints] -/
def sInI : Sem2 := fun x y cs k => ∃ i ns, x = .im (.int i) ∧ (y = .im (.lst (ns.map .int)) ∨ y = .im (.tup (ns.map .int)) ∨ y = .im (.scr ns)) ∧ k (.im (.bl (ns.any fun j => j == i))) cs
theorem inV_ints (i : Int) : ∀ ns : List Int, inV (.int i) (ns.map .int) = ns.any fun j => j == i
  | [] => rfl
  | n :: ns => by
    have z := inV_ints i ns
    unfold inV at z ⊢
    rw [List.map_cons, List.any_cons, List.any_cons, z]
    rfl
theorem flat_ints : ∀ ns : List Int, (ns.map V.int).all flatV = true
  | [] => rfl
  | n :: ns => flat_ints ns
theorem os_inI {ca : Str → Addr} {K : PySem.W.Frag} : OpS ca K (rIn K false) sInI := by
  rintro env cs ps σ G R H x y v u k Q r ox oy ⟨i, ns, rfl, hy, h⟩ q
  have fin : ∃ p, u = .ref p ∧ (SqL K H p (ns.map V.int) ∨ SqT K H p (ns.map V.int)) := by
    rcases hy with rfl | rfl | rfl
    · obtain ⟨p, xs, e, t, l⟩ := Dn.lst_inv oy
      rw [l.ints] at t
      exact ⟨p, e, .inl (.inl (.inl (r.wd.g _ _ t)))⟩
    · obtain ⟨p, xs, e, t, l⟩ := Dn.tup_inv oy
      rw [l.ints] at t
      exact ⟨p, e, .inr (r.wd.sqt t)⟩
    · obtain ⟨p, e, t⟩ := Dn.scr_inv oy
      exact ⟨p, e, .inl (r.wd.sql t)⟩
  obtain ⟨p, e, hq⟩ := fin
  have e1 := Dn.int_inv ox
  subst e1
  refine ⟨p, _, e, hq, rfl, flat_ints ns, ?_⟩
  rw [inV_ints, if_neg Bool.false_ne_true]
  exact r.same q h (Dn.bl _)
theorem ax_in (h : AX X C a env cs fun x c1 => AX X C b env c1 fun y c2 => sInI x y c2 k) (hm : behindInMarks .In b = false := by rfl) : AX X C (.Compare a [.In] [b] pos) env cs k := ax_cmp op_in_seq os_inI hm h
theorem at_in (h : AX X C a env cs fun x c1 => AX X C b env c1 fun y c2 => sInI x y c2 fun v c3 => ∃ z, v = .im (.bl z) ∧ kt z c3) (hm : behindInMarks .In b = false := by rfl) : AT X C (.Compare a [.In] [b] pos) env cs kt := at_cmpR op_in_seq os_inI hm h
end
end Al
/-! repr of data -/
namespace Al
open PySem PySem.Spec PyProof.Rows L2
def plP : PyData → Bool
  | .none => true
  | .bool _ => true
  | .int _ => true
  | .str _ => true
  | _ => false
section
variable {P : Program} {w : World} {K : PySem.W.Frag} {H : Hp} {h : Heap}
theorem pl_reads {v : V} {u : Value} {d : PyData} (x : Dp K H v d) (r : RelV v u) (p : plP d = true) : Reads h u d [] := by
  cases x with
  | non =>
    cases r
    exact .none
  | bl b =>
    cases r
    exact .bool b
  | int i =>
    obtain ⟨t, rfl⟩ := r
    exact .int i t
  | str i =>
    obtain ⟨t, rfl⟩ := r
    exact .str i t
  | lst _ _ => cases p
  | tup _ _ => cases p
theorem kv_reads : ∀ {el : List DictEntry} {vs : List (Key × Value)} {kvs : List (Key × V)} {es : List PyData}, Pairs (mixKind P w) el vs → KV kvs vs → DpAll K H (kvs.map (·.2)) es → es.all plP = true →
    ReadsAll h (el.map (·.key)) (((kvs.map fun q => kyP q.1).zip es).map (·.1)) [] ∧ ReadsAll h (el.map (·.val)) (((kvs.map fun q => kyP q.1).zip es).map (·.2)) []
  | _, _, _, _, .nil, .nil, .nil, _ => ⟨.nil, .nil⟩
  | _, _, _, _, .cons k1 k2 kt, .cons r1 rt, .cons d1 dt, p => by
    rw [List.all_cons, Bool.and_eq_true] at p
    obtain ⟨i1, i2⟩ := kv_reads kt rt dt p.2
    obtain ⟨e, rv⟩ := r1
    refine ⟨?_, ?_⟩
    · refine ReadsAll.cons (as := []) ?_ i1
      dsimp only
      rcases keyIs_shape k1 with ⟨i, t, e1, e2⟩ | ⟨i, t, e1, e2⟩
      · rw [e2, e, e1]
        exact .int i t
      · rw [e2, e, e1]
        exact .str i t
    · refine ReadsAll.cons (as := []) ?_ i2
      dsimp only
      rw [k2]
      exact pl_reads d1 rv p.1
end
section
variable {X : Cx} {pins : List (Addr × Obj)} {σ : L2.St} {H : Hp} {s : Shared}
/-- what repr may be asked of -/
def RpD (K : PySem.W.Frag) (H : Hp) (v : V) (d : PyData) : Prop := (Dp K H v d ∧ d.hasDict = false) ∨ ∃ a kvs es, v = .ref a ∧ H a = some (.dK kvs) ∧ DpAll K H (kvs.map (·.2)) es ∧ es.all plP = true ∧ d = .dict ((kvs.map fun q => kyP q.1).zip es)
def rRpr (K : PySem.W.Frag) : List V → Hp → VK → Prop := fun xs H Q => ∃ x d, xs = [x] ∧ RpD K H x d ∧ d.showable = true ∧ d.shown.length ≤ 16000000 ∧ d.depth ≤ 64 ∧ Q (.str d.shown) H
theorem cr_repr (gd : X.A.guards = some []) (hu : X.A.units + 70 < cLine) : CallR X (.builtin "repr") (rRpr X.K) := by
  rintro pins s σ H xs us Q I r ⟨x, d, rfl, hd, hs, hz, hdp, q⟩
  obtain ⟨u, rfl, ru⟩ := vals1 r
  have fin : ∀ {a : Addr} {as : List Addr}, u = .ref a → Reads s.heap (.ref a) d as → (d.hasDict = true → sysModules ∉ as) → wpAny (model X.prog X.w) X.A (call (.builtin "repr") [u]) (EP X pins σ Q) X.xe s := by
    intro a as e rd hsm
    subst e
    refine repr_of_reads' rd hs hsm gd (by omega) (fun _ _ z => z) (fun h' u tk kp => ?_) (sz_of hz)
    exact ⟨.str _, H, I.kept kp, ⟨_, rfl⟩, q⟩
  rcases hd with ⟨hd, nd⟩ | ⟨a, kvs, es, rfl, ha, hes, pl, rfl⟩
  · have hd' := hd
    cases hd with
    | non =>
      cases ru
      exact PySem.P.repr_of_none ⟨.str _, H, I.tok _, ⟨_, rfl⟩, q⟩
    | bl b =>
      cases ru
      exact PySem.P.repr_of_bool ⟨.str _, H, I.tok _, ⟨_, rfl⟩, q⟩
    | int i =>
      obtain ⟨t, rfl⟩ := ru
      exact PySem.P.repr_of_int (of_decide_eq_true hs) ⟨.str _, H, I.tok _, ⟨_, rfl⟩, q⟩
    | str i =>
      obtain ⟨t, rfl⟩ := ru
      exact PySem.P.repr_of_str ⟨.str _, H, I.tok _, ⟨_, rfl⟩, q⟩ (sz_of hz)
    | lst t dl =>
      obtain ⟨as, rd⟩ := Dp.reads I _ _ u hd' ru
      have e : u = .ref _ := ru
      subst e
      exact fin rfl rd fun z => by
        rw [nd] at z
        cases z
    | tup t dl =>
      obtain ⟨as, rd⟩ := Dp.reads I _ _ u hd' ru
      have e : u = .ref _ := ru
      subst e
      exact fin rfl rd fun z => by
        rw [nd] at z
        cases z
  · have e : u = .ref a := ru
    subst e
    obtain ⟨_, nsm, vs, kv, o, el, ep, ho, ex, hdt, kof, prs, nod⟩ := dk_of I.hok ha
    obtain ⟨i1, i2⟩ := kv_reads (h := s.heap) (K := X.K) (H := H) prs kv hes pl
    refine fin rfl (Reads.dict ho ex.1 hdt i1 i2) fun _ m => ?_
    rcases List.mem_cons.mp m with e | m
    · rw [e] at nsm
      simp at nsm
    · simp at m
end
mutual
/-- repr may be asked of it -/
def okR : Da → Bool
  | .dic ks l => okPL l && ks.length == l.length && (toPL l).all plP
  | d => okP d && !(toP d).hasDict
end
section
variable {X : Cx} {C : Ct} {env : En} {cs : Cells} {k : KE} {pos p : Pos} {e a b c : Expr} {es : List Expr}
def sRpr : SemA := fun as cs k => ∃ d, as = [.im d] ∧ okR d = true ∧ (toP d).showable = true ∧ (toP d).shown.length ≤ 16000000 ∧ (toP d).depth ≤ 64 ∧ k (.im (.str (toP d).shown)) cs
theorem rp_of {ca : Str → Addr} {K : PySem.W.Frag} {G H : Hp} (g : ∀ a o, G a = some o → H a = some o) {d : Da} {v : V} (h : Dn ca K G v d) (k : okR d = true) : RpD K H v (toP d) := by
  have gen : (okP d && !(toP d).hasDict) = true → RpD K H v (toP d) := fun z => by
    rw [Bool.and_eq_true] at z
    exact .inl ⟨dp_of g d v h z.1, by simpa using z.2⟩
  cases d with
  | dic ks l =>
    cases h with
    | dic ha hk hl =>
      rename_i a kvs
      have k' : (okPL l && ks.length == l.length && (toPL l).all plP) = true := k
      rw [Bool.and_eq_true, Bool.and_eq_true] at k'
      refine .inr ⟨a, kvs, toPL l, rfl, g _ _ ha, dp_all g l _ hl k'.1.1, k'.2, ?_⟩
      rw [← hk, toP, List.map_map]
      rfl
  | _ => exact gen k
theorem cs_rpr {ca : Str → Addr} {K : PySem.W.Frag} : CbS ca K (rRpr K) sRpr := by
  rintro env cs ps σ G R H as ws k Q r o ⟨d, rfl, ok, s1, s2, s3, h⟩ q
  obtain ⟨w, rfl, o1⟩ := av1 o
  exact ⟨w, _, rfl, rp_of r.wd.g o1 ok, s1, s2, s3, r.same q h (Dn.str _)⟩
theorem ax_repr (gd : X.A.guards = some []) (hu : X.A.units + 70 < cLine) (hg : Gl X "repr") (hm : X.mg "repr" = none) (h : AA X C (e :: es) env cs fun as c1 => sRpr as c1 k) (he : starEach (e :: es) X.env = (false, eval e X.env) :: starEach es X.env := by rfl) (hpl : (backTo pos (starEach es X.env)).any (·.1) = false := by rfl) :
    AX X C (.Call (.Name "repr" p) (e :: es) [] pos) env cs k := ax_cb (cr_repr gd hu) cs_rpr hg hm (by decide +kernel) h (by decide) (by decide) he hpl
end
end Al
/-! dict displays, l[:n], x, y = a, b, defs that come to a fresh list, calls with a fresh list -/
namespace Al
open PySem PySem.Spec PyProof.Rows L2
section
variable {X : Cx} {C : Ct} {env : En} {cs : Cells} {k : KE} {pos p p2 : Pos} {e a b c : Expr} {es : List Expr}
theorem Rep.dic {ca : Str → Addr} {K : PySem.W.Frag} {env : En} {cs : Cells} {ps : List Addr} {σ : L2.St} {G R H : Hp} {k : KE} {Q : VK} {kvs : List (Key × V)} {ks : List Key} {ds : List Da} {p : Addr} (r : Rep ca K env cs ps σ G R H) (q : Post ca K env ps σ G R k Q) (h : k (.im (.dic ks ds)) cs) (e : kvs.map (·.1) = ks) (o : DnL ca K G (kvs.map (·.2)) ds) (hp : H p = none) : Q (.ref p) (upd H p (.dK kvs)) :=
  have x := Ex.new (o := HO.dK kvs) (r.wd.freshG hp)
  q _ cs _ _ R _ h (Gr.data x) (r.newG hp) (Dn.dic upd_same e (o.mono x))
/-- {} -/
theorem ax_dic0 (h : k (.im (.dic [] [])) cs) : AX X C (.Dict [] [] pos) env cs k := pe_dnewK.imp fun σ H Q ⟨ps, G, R, r, px, q⟩ => fun p hp => r.dic (kvs := []) q h rfl .nil hp
/-- {"..": i} -/
theorem ax_dic1 {x : Str} {i : Int} {j1 j2 : Nat} {q1 q2 : Pos} (h : k (.im (.dic [.inr x] [.int i])) cs) : AX X C (.Dict [some (.Constant (.str x) j1 q1)] [.Constant (.int i) j2 q2] pos) env cs k :=
  (pe_disp (trs := [(tC (.str x), tC (.int i))]) (pps_cons pe_str pe_int pps_nil) rfl rfl (by simp) (by simp)).imp fun σ H Q ⟨ps, G, R, r, px, q⟩ => fun p hp => by
    have z := r.dic (kvs := [(.inr x, .int i)]) q h rfl (.cons (.int i) .nil) hp
    refine ⟨upd_same, [(.inr x, .int i)], rfl, by simp, ?_⟩
    have e : upd (upd H p (.dK [])) p (.dK (mergeK [] [(Sum.inr x, V.int i)])) = upd H p (.dK [(Sum.inr x, V.int i)]) := by
      funext b
      by_cases hb : b = p
      · subst hb
        rw [upd_same, upd_same]
        rfl
      · rw [upd_ne hb, upd_ne hb, upd_ne hb]
    rw [e]
    exact z
/-- l[:n] of the script, a list, a cell -/
def sTake : Sem2 := fun x y cs k => ∃ n : Nat, y = .im (.int (n : Int)) ∧ ((∃ ns, x = .im (.scr ns) ∧ k (.im (.lst ((ns.take n).map .int))) cs) ∨ ∃ l, asD cs x = some (.lst l) ∧ k (.im (.lst (l.take n))) cs)
theorem cut_take {xs : List V} {n : Nat} : cutV xs none (some (n : Int)) = xs.take n := by
  unfold cutV
  rw [HT.sIx_none, HT.sIx_nat, List.drop_zero, Nat.sub_zero]
  rw [List.take_eq_take_iff]
  omega
theorem ax_take (h : AX X C a env cs fun x c1 => AX X C b env c1 fun y c2 => sTake x y c2 k) : AX X C (.Subscript a (.Slice none (some b) none p2) pos) env cs k :=
  (pe_slice sl_list h po_none (po_some (pe_x2 (X := X) (C := C) (env := env) (k2 := fun x y c2 => sTake x y c2 k)))).imp fun σ H Q ⟨ps, G, R, r, px, q⟩ => ⟨ps, G, R, r, px, fun x c1 v G1 R1 H1 hk g1 r1 o1 =>
    ⟨x, c1, hk, ps, G1, R1, r1, px.on g1, fun y c2 u G2 R2 H2 hf g2 r2 o2 => by
      obtain ⟨n, rfl, hx⟩ := hf
      refine ⟨(n : Int), Dn.int_inv o2, ?_⟩
      have o1' := o1.mono g2.ex (fun _ _ z => z)
      rcases hx with ⟨ns, rfl, hk2⟩ | ⟨l, hl, hk2⟩
      · obtain ⟨p, e1, t1⟩ := Dn.scr_inv o1'
        refine ⟨p, _, e1, r2.wd.sql t1, fun z hz => ?_⟩
        rw [cut_take, ← List.map_take]
        exact r2.lst (q.on (g1.trans g2)) hk2 (DnL.of_ints _) hz
      · have fin : ∃ p xs, v = .ref p ∧ H2 p = some (.lst xs) ∧ DnL C.ca X.K G2 xs l := by
          cases x with
          | im d =>
            have e' := Option.some.inj hl
            subst e'
            obtain ⟨p, xs, e1, t1, dl⟩ := Dn.lst_inv o1'
            exact ⟨p, xs, e1, r2.wd.g _ _ t1, dl⟩
          | ow j =>
            obtain ⟨p, hp, e1⟩ := o1'
            unfold asD at hl
            dsimp only at hl
            split at hl
            · rename_i l' hc
              have e' := Da.lst.inj (Option.some.inj hl)
              subst e'
              obtain ⟨vs, hR, dl⟩ := r2.cell j p l' hp hc
              exact ⟨p, vs, e1, r2.wd.r _ _ hR, dl⟩
            · cases hl
        obtain ⟨p, xs, e1, t1, dl⟩ := fin
        refine ⟨p, xs, e1, .inl (.inl t1), fun z hz => ?_⟩
        rw [cut_take]
        exact r2.lst (q.on (g1.trans g2)) hk2 (dl.take n) hz⟩⟩
end
section
variable {X : Cx} {C : Ct} {env : En} {cs : Cells} {P : Pst} {pos pt pt2 px py : Pos} {e a b c : Expr} {es : List Expr}
/-- x, y = a, b -/
theorem as_par (i j : Nat) {x y : Str} {kt k2 : Nat} (hc : X.calm = true) (hN : X.N.Nodup) (hi : X.N[i]? = some x) (hj : X.N[j]? = some y) (hij : i ≠ j) (hx : X.env.scope.names.lookup x = some .local) (hy : X.env.scope.names.lookup y = some .local) (li : i < env.length) (lj : j < env.length)
    (h : AA X C [a, b] env cs fun as c1 => ∃ d1 d2, as = [.im d1, .im d2] ∧ P.nx ((env.set i (some (.im d1))).set j (some (.im d2))) c1)
    (hw : swappedStores [.Tuple [.Name x px, .Name y py] kt pt] (.Tuple [a, b] k2 pt2) X.env = pure (some [x, y]) := by rfl) (hs : swapsWithSole [.Tuple [.Name x px, .Name y py] kt pt] (.Tuple [a, b] k2 pt2) pos.line X.env = pure false := by rfl) :
    AS X C (.Assign [.Tuple [.Name x px, .Name y py] kt pt] (.Tuple [a, b] k2 pt2) pos) env cs P :=
  (ps_par hc hN hi hj hij hx hy h hw hs).imp fun D σ H ⟨ps, G, R, r, px, q⟩ => ⟨ps, G, R, r, px, fun as c1 ws G1 R1 H1 hk g1 r1 o1 => by
    obtain ⟨d1, d2, rfl, hk2⟩ := hk
    match ws, o1 with
    | [w1, w2], ⟨o1, o2, _⟩ =>
      refine ⟨w1, w2, rfl, ?_⟩
      exact q.nx _ c1 ps _ G1 R1 H1 hk2 g1 ((r1.setE (a := .im d1) o1 li).setE (a := .im d2) o2 (by rw [List.length_set]; exact lj))⟩
/-- return of a fresh list: a new cell -/
theorem as_retL (h : AL X C e env cs fun ds c1 => P.rt (.ow c1.length) (c1 ++ [some ds])) : AS X C (.Return (some e) pos) env cs P :=
  (ps_ret h).imp fun D σ H ⟨ps, G, R, r, px, q⟩ => ⟨ps, G, R, r, px, fun ds c1 p vs G1 R1 H1 h1 g1 r1 hp dl => by
    have r2 := r1.newC hp dl
    exact q.rt _ env _ (ps ++ [p]) σ _ G1 _ _ h1 (g1.trans (Gr.newC r1 hp)) r2 ⟨p, by rw [← r1.len, List.getElem?_append_right (Nat.le_refl _), Nat.sub_self]; rfl, rfl⟩⟩
end
/-! defs that come to a fresh list -/
abbrev PhF := List Da → (List Da → Prop) → Prop
def spF (ca : Str → Addr) (K : PySem.W.Frag) (n : Nat) (φ : PhF) : Sp := fun vs H Q _ => ∃ G R ds, vs.length = n ∧ Wd G R H ∧ DnL ca K G vs ds ∧ φ ds fun es => ∀ p us G' H', Ex G G' → R p = none → Wd G' (upd R p (.lst us)) H' → DnL ca K G' us es → Q (.ref p) H'
theorem Wd.cut {G R H : Hp} {p : Addr} {o : HO} (w : Wd G (upd R p o) H) (hR : R p = none) : Wd G R (Al.cut H p) ∧ upd (Al.cut H p) p o = H := by
  have e1 : (upd R p o) p = some o := upd_same
  have hG := w.noG e1
  refine ⟨⟨fun a u e => ?_, fun a u e => ?_, fun a u e => ?_⟩, ?_⟩
  · rw [cut_ne (fun z => by rw [z, hG] at e; cases e)]
    exact w.g a u e
  · have ne : a ≠ p := fun z => by
      rw [z, hR] at e
      cases e
    rw [cut_ne ne]
    exact w.r a u (by rw [upd_ne ne]; exact e)
  · have z := w.d a u e
    by_cases ne : a = p
    · rw [ne]
      exact hR
    · rw [upd_ne ne] at z
      exact z
  · funext b
    by_cases hb : b = p
    · rw [hb, upd_same]
      exact (w.r _ _ e1).symm
    · rw [upd_ne hb, cut_ne hb]
section
variable {X : Cx} {C : Ct} {env : En} {cs : Cells} {kk : KE} {kl : KL} {k n : Nat} {f : Addr} {fd : FuncData} {ps : List Str} {x : Str} {p pos : Pos} {e : Expr} {es : List Expr}
theorem al_callF {φ : PhF} (F : FnG X.prog X.w X.K X.mg X.base CX0 k f fd ps (spF C.ca X.K n φ)) (gd : X.A.guards = some []) (hr : Room k X.A) (hg : Gl X x) (hm : X.mg x = some (.ref f)) (hk : PySem.W.keepIn X.K (.ref f) = true) (hb : Binds X.K fd ps [])
    (h : AA X C (e :: es) env cs fun as c1 => imL as fun ds => ds.length = n ∧ φ ds (fun l => kl l c1)) (hdb : (x == ("__debug__" : Str)) = false := by decide) (he : starEach (e :: es) X.env = (false, eval e X.env) :: starEach es X.env := by rfl)
    (hpl : (backTo pos (starEach es X.env)).any (·.1) = false := by rfl) (mono : ∀ ds k1 k2, φ ds k1 → (∀ d, k1 d → k2 d) → φ ds k2 := by assumption) :
    AL X C (.Call (.Name x p) (e :: es) [] pos) env cs kl :=
  (pe_callG F gd hr hg hm hk hb pass0 h hdb he hpl).imp fun σ H Q ⟨pz, G, R, r, px, q⟩ => ⟨pz, G, R, r, px, fun as c1 ws G1 R1 H1 h1 g1 r1 o1 => by
    obtain ⟨ds, e1, hn, hφ⟩ := imL_of h1
    subst e1
    have dl := AVokL.ims o1
    refine ⟨G1, R1, ds, dl.length.trans hn, r1.wd, dl, mono _ _ _ hφ fun l hl p us G2 H2 ex hR w du => ?_⟩
    obtain ⟨w2, e2⟩ := w.cut hR
    have r2 : Rep C.ca X.K env c1 pz σ G2 R1 (cut H2 p) := r1.grow ex w2
    have z := q l c1 p us G2 R1 (cut H2 p) hl (g1.trans (Gr.data ex)) r2 cut_same du
    rw [e2] at z
    exact z⟩
/-- f(e), e a fresh list, which f may change -/
theorem ax_callJ1 {φ : PhJ} (F : FnG X.prog X.w X.K X.mg X.base CX0 k f fd ps (spJ C.ca X.K 0 φ)) (gd : X.A.guards = some []) (hr : Room k X.A) (hg : Gl X x) (hm : X.mg x = some (.ref f)) (hk : PySem.W.keepIn X.K (.ref f) = true) (hb : Binds X.K fd ps [])
    (h : AL X C e env cs fun js c1 => φ js [] (fun d _ => kk (.im d) c1) fun _ _ _ _ => False) (hdb : (x == ("__debug__" : Str)) = false := by decide) (he : starEach [e] X.env = (false, eval e X.env) :: starEach [] X.env := by rfl)
    (hpl : (backTo pos (starEach [] X.env)).any (·.1) = false := by rfl) (mono : ∀ js ds k1 k2 x1 x2, φ js ds k1 x1 → (∀ d js', k1 d js' → k2 d js') → (∀ c ks es js', x1 c ks es js' → x2 c ks es js') → φ js ds k2 x2 := by assumption) :
    AX X C (.Call (.Name x p) [e] [] pos) env cs kk :=
  (pe_callG F gd hr hg hm hk hb pass0 (pa_cons h pa_nil he) hdb he hpl).imp fun σ H Q ⟨pz, G, R, r, px, q⟩ => ⟨pz, G, R, r, px, fun js c1 p vs G1 R1 H1 h1 g1 r1 hp dl => by
    have r2 := r1.newC hp dl
    refine ⟨G1, upd R1 p (.lst vs), p, vs, js, [], [], rfl, rfl, r1.wd.newR hp, upd_same, dl, .nil, mono _ _ _ _ _ _ h1 (fun d js' hd v us' G2 H2 ex du w o => ?_) fun c ks es js' hf => hf.elim⟩
    have hR := r1.wd.freshR hp
    refine q _ c1 v G2 R1 H2 hd (g1.trans (Gr.data ex)) (r1.grow ex (w.less fun a o e => ?_)) o
    have ne : a ≠ p := fun z => by
      rw [z, hR] at e
      cases e
    rw [upd_ne ne, upd_ne ne]
    exact e⟩
end
section
variable {ca : Str → Addr} {P : Program} {w : World} {K : PySem.W.Frag} {mg : Str → Option Value} {base : Heap}
theorem rep0 {N ps : List Str} {sc : Scope} {n : Nat} {G R H : Hp} {vs : List V} {ds : List Da} (S : FnScope N ps sc) (hn : ps.length = n) (wd : Wd G R H) (dl : DnL ca K G vs ds) (hl : vs.length = n) : Rep ca K (env0 N (ds.map .im)) [] [] (start N vs) G R H := by
  have len : n ≤ N.length := by
    have z := congrArg List.length S.pre
    rw [List.length_take] at z
    omega
  constructor
  · exact wd
  · exact List.nodup_nil
  · rfl
  · intro k p ds h
    simp at h
  · intro k p h
    simp at h
  · intro i a e
    have e2 : (ds.map AV.im)[i]? = some a := get_pad e
    rw [List.getElem?_map] at e2
    obtain ⟨d, hd, ed⟩ := Option.map_eq_some_iff.mp e2
    subst ed
    obtain ⟨v, hv, o⟩ := dl.get hd
    refine ⟨v, ?_, o⟩
    show (vs.map some ++ _)[i]? = _
    rw [List.getElem?_append_left (by rw [List.length_map]; exact (List.getElem?_eq_some_iff.mp hv).1), List.getElem?_map, hv]
    rfl
  · have z := dl.length
    simp [L2.start, env0]
    omega
theorem fnF {nm ql : Str} {st : Stmt} {f : Addr} {fd : FuncData} {N ps : List Str} {k n : Nat} {φ : PhF} (F : Fun K nm ql st f fd) (S : FnScope N ps (defScope st)) (hn : ps.length = n)
    (go : ∀ (cdv : Value) (A : Around) (outer : List PySem.Env) (s : Shared) (H : Hp) (E : XK) (ds : List Da) (kd : List Da → Prop), A.guards = some [] → Room k (A.deeper (envOfC ql (defScope st) s.heap.objs.size f cdv)) → ds.length = n → φ ds kd →
      AB (cxOf CX0 P w K mg base N ql (defScope st) f cdv A outer s H E).nox ⟨ca, fun _ _ _ _ => True, fun _ _ _ _ _ => False⟩ (defBody st) (env0 N (ds.map .im)) [] { nx := fun _ _ => False, rt := fun a cs => ∃ j l, a = .ow j ∧ cs[j]? = some (some l) ∧ kd l })
    (mono : ∀ ds k1 k2, φ ds k1 → (∀ d, k1 d → k2 d) → φ ds k2) : FnG P w K mg base CX0 (k + 1) f fd ps (spF ca K n φ) := by
  obtain ⟨oc, od, kV, doc, pm, an, cdv, ct, osl, rfl, lk, hcd⟩ := F.ex
  refine fn_ofG lk hcd S (fun vs H Q E ⟨_, _, _, h, _⟩ => h.trans hn.symm) fun A outer s H vs Q E gd hr ⟨G, R, ds, hl, wd, dl, hφ⟩ => ?_
  have hb := go cdv A outer s H E ds _ gd hr (dl.length.symm.trans hl) (mono _ _ _ hφ fun _ h => h)
  refine ⟨_, PSs.nox hb, ?_⟩
  have rep : Rep ca K (env0 N (ds.map .im)) [] [] (start N vs) G R H := rep0 S hn wd dl hl
  refine ⟨[], G, R, rep, fun c ks ds env cs ps' dd σ G' R' H' h => h.elim, ⟨?_, ?_, ?_, ?_⟩⟩
  · intro env' cs' ps' σ' G' R' H' h g r
    exact h.elim
  · rintro a env' cs' ps' σ' v G' R' H' ⟨j, l, rfl, hc, h⟩ g r ⟨p, hp, ev⟩
    subst ev
    obtain ⟨us, hR, du⟩ := r.cell j p l hp hc
    have m : p ∈ ps' := List.mem_iff_getElem?.mpr ⟨j, hp⟩
    have n0 : R p = none := g.new p m (by simp)
    refine h p us G' H' g.ex n0 (r.wd.less fun a o e => ?_) du
    by_cases ne : a = p
    · subst ne
      rw [upd_same] at e
      rw [← e]
      exact hR
    · rw [upd_ne ne] at e
      exact g.oth a o (by simp) e
  · intro env' cs' ps' σ' G' R' H' h
    exact h.elim
  · intro env' cs' ps' σ' G' R' H' h
    exact h.elim
end
end Al
/-! type(x), is, a < b < c, in, slices -/
namespace Al
open PySem PySem.Spec PyProof.Rows L2
/-- the built-in type of data -/
def tyOf : Da → Option String
  | .non => some "NoneType"
  | .bl _ => some "bool"
  | .int _ => some "int"
  | .str _ => some "str"
  | .tup _ => some "tuple"
  | .lst _ => some "list"
  | .scr _ => some "list"
  | .dic _ _ => some "dict"
  | _ => none
theorem ty_of {ca : Str → Addr} {K : PySem.W.Frag} {G H : Hp} {v : V} {d : Da} {n : String} (g : ∀ a o, G a = some o → H a = some o) (o : Dn ca K G v d) (e : tyOf d = some n) : TyB K H v n := by
  cases o with
  | non => cases e; exact .non
  | bl b => cases e; exact .bl b
  | int i => cases e; exact .int i
  | str x => cases e; exact .str x
  | tup t _ => cases e; exact .tup (Ex.sqt g t)
  | lst t _ => cases e; exact .lst (.inl (.inl (g _ _ t)))
  | scr t => cases e; exact .lst (Ex.sql g t)
  | dic t _ _ => cases e; exact .dK (g _ _ t)
  | ty n => cases e
  | cl n => cases e
  | ins _ _ _ => cases e
  | exc0 _ => cases e
  | raw _ => cases e
  | exc1 _ _ _ _ => cases e
section
variable {X : Cx} {C : Ct} {env : En} {cs : Cells} {k : KE} {kt : KT} {pos p p2 : Pos} {e a b c : Expr} {es : List Expr}
def sTyp : SemA := fun as cs k => ∃ d n, as = [.im d] ∧ tyOf d = some n ∧ k (.im (.ty n)) cs
theorem cs_typ {ca : Str → Addr} {K : PySem.W.Frag} : CbS ca K (rTyp K) sTyp := by
  rintro env cs ps σ G R H as ws k Q r o ⟨d, n, rfl, hn, h⟩ q
  obtain ⟨w, rfl, o1⟩ := av1 o
  exact ⟨w, n, rfl, ty_of r.wd.g o1 hn, r.same q h (Dn.ty n)⟩
theorem ax_type (hg : Gl X "type") (hm : X.mg "type" = none) (h : AA X C (e :: es) env cs fun as c1 => sTyp as c1 k) (he : starEach (e :: es) X.env = (false, eval e X.env) :: starEach es X.env := by rfl) (hpl : (backTo pos (starEach es X.env)).any (·.1) = false := by rfl) :
    AX X C (.Call (.Name "type" p) (e :: es) [] pos) env cs k := ax_ct call_type1 cs_typ hg hm (by decide +kernel) h (by decide) (by decide) he hpl
theorem Dn.ty_inv {ca : Str → Addr} {K : PySem.W.Frag} {G : Hp} {v : V} {n : String} (h : Dn ca K G v (.ty n)) : v = .ty n := by cases h; rfl
/-- is, is not of built-in types -/
def sIs (g : Bool → Bool) : Sem2 := fun x y cs k => ∃ m n, x = .im (.ty m) ∧ y = .im (.ty n) ∧ k (.im (.bl (g (decide (m = n))))) cs
theorem os_is {ca : Str → Addr} {K : PySem.W.Frag} {g : Bool → Bool} : OpS ca K (fun x y H Q => ∃ a b, x = .ty a ∧ y = .ty b ∧ Q (.bl (g (decide (a = b)))) H) (sIs g) := by
  rintro env cs ps σ G R H x y v u k Q r ox oy ⟨m, n, rfl, rfl, h⟩ q
  exact ⟨m, n, Dn.ty_inv ox, Dn.ty_inv oy, r.same q h (Dn.bl _)⟩
theorem ax_is (h : AX X C a env cs fun x c1 => AX X C b env c1 fun y c2 => sIs id x y c2 k) (hm : behindInMarks .Is b = false := by rfl) : AX X C (.Compare a [.Is] [b] pos) env cs k := ax_cmp (op_isTyB (X := X)) (os_is (g := id)) hm h
theorem ax_isnot (h : AX X C a env cs fun x c1 => AX X C b env c1 fun y c2 => sIs not x y c2 k) (hm : behindInMarks .IsNot b = false := by rfl) : AX X C (.Compare a [.IsNot] [b] pos) env cs k := ax_cmp (op_notTyB (X := X)) (os_is (g := not)) hm h
theorem at_is (h : AX X C a env cs fun x c1 => AX X C b env c1 fun y c2 => sIs id x y c2 fun v c3 => ∃ z, v = .im (.bl z) ∧ kt z c3) (hm : behindInMarks .Is b = false := by rfl) : AT X C (.Compare a [.Is] [b] pos) env cs kt := at_cmpR (op_isTyB (X := X)) (os_is (g := id)) hm h
theorem at_isnot (h : AX X C a env cs fun x c1 => AX X C b env c1 fun y c2 => sIs not x y c2 fun v c3 => ∃ z, v = .im (.bl z) ∧ kt z c3) (hm : behindInMarks .IsNot b = false := by rfl) : AT X C (.Compare a [.IsNot] [b] pos) env cs kt := at_cmpR (op_notTyB (X := X)) (os_is (g := not)) hm h
/-- a <= b <= c -/
theorem ax_chain {op op' : CmpOp} {r r' : R2} {f f' : Sem2} (ho : OpR X (compareOp op) r) (ho' : OpR X (compareOp op') r') (hs : OpS C.ca X.K r f) (hs' : OpS C.ca X.K r' f')
    (h : AX X C a env cs fun x c1 => AX X C b env c1 fun y c2 => f x y c2 fun v c3 => ∃ z, v = .im (.bl z) ∧ (z = true → AX X C c env c3 fun w c4 => f' y w c4 k) ∧ (z = false → k (.im (.bl false)) c3)) (hm : lastMarks [op, op'] [b, c] = false := by with_unfolding_all rfl) :
    AX X C (.Compare a [op, op'] [b, c] pos) env cs k :=
  (pe_chain ho ho' h (pe_x2 (X := X) (C := C) (env := env) (k2 := fun x y c2 => f x y c2 fun v c3 => ∃ z, v = .im (.bl z) ∧ (z = true → AX X C c env c3 fun w c4 => f' y w c4 k) ∧ (z = false → k (.im (.bl false)) c3)))
    (pe_x2 (X := X) (C := C) (env := env) (k2 := fun y w c4 => f' y w c4 k)) hm).imp fun σ H Q ⟨ps, G, R, r, px, q⟩ =>
    ⟨ps, G, R, r, px, fun x c1 v G1 R1 H1 hk g1 r1 o1 => ⟨x, c1, hk, ps, G1, R1, r1, px.on g1, fun y c2 u G2 R2 H2 hf g2 r2 o2 => hs _ _ _ _ _ _ _ x y v u _ _ r2 (o1.mono g2.ex fun _ _ z => z) o2 hf fun z c3 w G3 R3 H3 ⟨bz, ez, h1, h2⟩ g3 r3 o3 => by
      subst ez
      refine ⟨bz, Dn.bl_inv o3, ?_⟩
      cases bz with
      | true => exact iteT ⟨y, c3, h1 rfl, ps, G3, R3, r3, ((px.on g1).on g2).on g3, fun w c4 t G4 R4 H4 hk4 g4 r4 o4 => hs' _ _ _ _ _ _ _ y w u t _ _ r4 (o2.mono (g3.trans g4).ex fun _ _ z => z) o4 hk4 (q.on (((g1.trans g2).trans g3).trans g4))⟩
      | false => exact iteF (q _ c3 _ G3 R3 H3 (h2 rfl) ((g1.trans g2).trans g3) r3 (Dn.bl false))⟩⟩
theorem ax_lele (h : AX X C a env cs fun x c1 => AX X C b env c1 fun y c2 => sLe x y c2 fun v c3 => ∃ z, v = .im (.bl z) ∧ (z = true → AX X C c env c3 fun w c4 => sLe y w c4 k) ∧ (z = false → k (.im (.bl false)) c3)) (hm : lastMarks [.LtE, .LtE] [b, c] = false := by with_unfolding_all rfl) :
    AX X C (.Compare a [.LtE, .LtE] [b, c] pos) env cs k := ax_chain op_leA op_leA os_cmp os_cmp h hm
end
end Al
namespace Al
open PySem PySem.Spec PyProof.Rows L2
section
variable {X : Cx} {C : Ct} {env : En} {cs : Cells} {P : Pst} {pos : Pos} {e tg : Expr}
/-- target = e, by what the target does with the data -/
theorem as_unp {g : TG} {t : Da → En → (En → Prop) → Prop} (hG : PG X tg g) (hT : TgS C.ca X.K g t) (h : AX X C e env cs fun x c1 => ∃ d, x = .im d ∧ t d env fun env1 => P.nx env1 c1)
    (hs : swapsWithSole [tg] e pos.line X.env = pure false := by rfl) (hw : swappedStores [tg] e X.env = pure none := by rfl) (h1 : (assignEach [tg] X.env).map (·.2) = [assign tg X.env] := by rfl) : AS X C (.Assign [tg] e pos) env cs P :=
  (ps_asg h hG hs hw h1).imp fun D σ H ⟨ps, G, R, r, px, q⟩ => ⟨ps, G, R, r, px, fun x c1 v G1 R1 H1 ⟨d, ex, ht⟩ g1 r1 o1 => by
    subst ex
    exact hT d v env c1 ps σ G1 R1 H1 _ _ r1 o1 ht fun env1 σ1 hn r2 => q.nx env1 c1 ps σ1 G1 R1 H1 hn g1 r2⟩
end
end Al
/-! for i, x in enumerate(t), t a tuple -/
namespace Al
open PySem PySem.Spec PyProof.Rows L2
theorem enNew {v : Value} {o : Obj} {Hh : Heap → Prop} (B : Begins v o Hh) :
    Meets (Builtin.«enumerate.__new__» ⟨[.type "enumerate", v], []⟩) (fun _ R s => Hh s.heap ∧
      R (.ok (.ret (.ref (s.heap.push o).objs.size))) { s with heap := (s.heap.push o).push { cls := .type "enumerate", data := .fields #[.none, .bool false, .ref s.heap.objs.size, rawInt 0, .none, .none] } }) :=
  .of_wp fun prog w A R s q => by
    obtain ⟨hp, gs, dr, tk, sys⟩ := s
    obtain ⟨b1, q⟩ := q
    have kind := sub_enumerate
    have it : ∀ {A' : Around} {E : Value → Shared → Prop} {Q : Value → Shared → Prop}, Q (.ref hp.objs.size) ⟨hp.push o, gs, dr, tk, sys⟩ → wpAny (model prog w) A' (pyIter v) Q E ⟨hp, gs, dr, tk, sys⟩ := by
      intro A' E Q z
      exact B.iter prog w _ _ ⟨hp, gs, dr, tk, sys⟩ _ b1 z
    wp_walk using it
    refine wpAny_stack_any fun st => ?_
    refine wpAny_pure ?_
    split
    · rename_i c _ _ _ _ _
      cases (c == Value.type "enumerate")
      · wp_walk using it
        exact ⟨_, rfl, q⟩
      · wp_walk using it
        exact ⟨_, rfl, q⟩
    · wp_walk using it
      exact ⟨_, rfl, q⟩
theorem enCall {prog : Program} {w : World} {A : Around} {E : Value → Shared → Prop} {s : Shared} {v : Value} {o : Obj} {Hh : Heap → Prop} {Q : Value → Shared → Prop} (B : Begins v o Hh) (h1 : Hh s.heap)
    (h : ∀ h', IsEnum h' (s.heap.objs.size + 1) s.heap.objs.size 0 .none → h'.get? s.heap.objs.size = some o → h'.objs.size = s.heap.objs.size + 2 → (∀ b u, s.heap.get? b = some u → h'.get? b = some u) → Q (.ref (s.heap.objs.size + 1)) { s with heap := h' }) :
    wpAny (model prog w) A (call (.type "enumerate") [v]) Q E s := by
  refine callType_new F.called_enumerate (by decide) (F.typeCall_enumerate_1 _) (F.newCall_enumerate_1 _) (fun obj => F.args_object_init_2 obj _) F.entry_enumerate_new (enNew B) ⟨h1, ?_⟩
  have size1 : (s.heap.push o).objs.size = s.heap.objs.size + 1 := Heap.size_push ..
  show _ ∧ _
  rw [size1]
  have ise : IsEnum ((s.heap.push o).push { cls := .type "enumerate", data := .fields #[.none, .bool false, .ref s.heap.objs.size, rawInt 0, .none, .none] }) (s.heap.objs.size + 1) s.heap.objs.size 0 .none := by
    have z := Heap.get?_push_size (s.heap.push o) (o := { cls := .type "enumerate", data := .fields #[.none, .bool false, .ref s.heap.objs.size, rawInt 0, .none, .none] }) rfl
    rwa [size1] at z
  refine ⟨⟨_, ise, rfl⟩, h _ ise (Heap.get?_push_of_some _ (Heap.get?_push_size _ B.free)) ?_ ?_⟩
  · rw [Heap.size_push, size1]
  · intro b u z
    exact Heap.get?_push_of_some _ (Heap.get?_push_of_some _ z)
/-- the tuple at a, each item in a new pair -/
def ItE (K : PySem.W.Frag) (a : Addr) : It where
  go := fun i H => ∃ (xs : List V) (x : V), SqT K H a xs ∧ xs[i]? = some x
  yld := fun i H v H' => ∃ T x, v = .ref T ∧ H T = none ∧ H' = upd H T (.tup [.int (i : Nat), x]) ∧ ∀ xs, SqT K H a xs → xs[i]? = some x
  stop := fun i H => ∃ xs : List V, SqT K H a xs ∧ xs.length = i
theorem tup_is {h : Heap} {a : Addr} {its : Array Value} (p : IsTup h a its) : h.IsTuple a its := p
theorem turnE {P : Program} {w : World} {K : PySem.W.Frag} {elts : List Expr} {kk : Nat} {tpos : Pos} (a e it : Addr) (na : it ≠ a) (ne2 : e ≠ a) :
    Turn P w K (.Tuple elts kk tpos) (ItE K a) [e, it] e (fun i h => (∃ old, IsEnum h e it ((i : Nat) : Int) old) ∧ h.IsTupleIter it a i ∧ e ≠ it) := by
  constructor
  · simp
  · rintro i h ⟨⟨old, he⟩, ⟨o, ho, hc, hd⟩, _⟩ b hb
    have cases2 : b = e ∨ b = it := by simpa using hb
    rcases cases2 with z | z
    · subst z
      exact ⟨_, he, fun v q => nomatch q⟩
    · subst z
      exact ⟨o, ho, fun v q => by rw [hd] at q; cases q⟩
  · rintro i h h' ⟨⟨old, he⟩, hi, hne⟩ k
    exact ⟨⟨old, k e (by simp) _ he⟩, hi.at fun o q => k it (by simp) o q, hne⟩
  · intro X hP hw hK hc i pins s σ H E I hf st hg
    subst hP hw hK
    obtain ⟨⟨old, he⟩, hit, hne⟩ := st
    obtain ⟨xs, x, hq, hx⟩ := hg
    obtain ⟨its, rv, p, hz⟩ := I.tuple hq
    obtain ⟨u, hu, ru⟩ := rv.get hx
    have lt_e : e < s.heap.objs.size := Heap.lt_size he
    have lt_it : it < s.heap.objs.size := by
      obtain ⟨_, q, _⟩ := hit
      exact Heap.lt_size q
    have hun : i < its.toArray.size := by
      have := (List.getElem?_eq_some_iff.mp hu).1
      simpa using this
    have Dr := Draws.tuple (prog := X.prog) (w := X.w) (A := X.A.in1) (I.ok.hd hc) it a (Ne.symm na) its.toArray
    refine wpAny_pyNext_enum_itemD Dr he ⟨hit, tup_is p⟩ hun hne (by simp [hne, ne2]) ?_
    intro y h' tk hy ho st2 hT hsz hk
    have ey : y = u := by
      have hy' : its.toArray[i]? = some y := hy
      rw [List.getElem?_toArray, hu] at hy'
      exact (Option.some.inj hy').symm
    subst ey
    refine ⟨_, rfl, wpAny_letOwnedTupleGo_enum (s := { s with heap := h', toks := tk + 1 }) ho ?_⟩
    intro h2 he2 sb
    have hT2 : h2.get? s.heap.objs.size = some { cls := .type "tuple", data := .seq #[.int i tk, y] } := (sb.2 _ (Nat.ne_of_gt lt_e)).trans hT
    have new : ObjOk X.prog X.w (upd H s.heap.objs.size (.tup [.int (i : Nat), x])) h2 s.heap.objs.size (.tup [.int (i : Nat), x]) := by
      refine ⟨by show 2 ≤ sizeLine; decide, [.int i tk, y], .cons ⟨_, rfl⟩ (.cons ru .nil), ⟨_, hT2, rfl, _, rfl⟩⟩
    have I1 : Inv X pins σ (upd H s.heap.objs.size (.tup [.int (i : Nat), x])) { s with heap := h2, toks := tk + 1 } := by
      refine I.turnedNew (ch := [e, it]) (fun b ob hb q => ?_) hf (Nat.le_refl _) new
      have n1 : b ≠ e := fun z => hb (by simp [z])
      have n2 : b ≠ it := fun z => hb (by simp [z])
      exact (sb.2 b n1).trans (hk b ob n1 n2 q)
    refine ⟨.ref s.heap.objs.size, _, I1, rfl, ⟨_, x, rfl, I.hok.fresh (Nat.le_refl _), rfl, fun ys hy => ?_⟩, ⟨⟨y, ?_⟩, ?_, hne⟩, fun b hb => ?_⟩
    · rw [I.tuple_inj hy hq]
      exact hx
    · have e1 : ((i + 1 : Nat) : Int) = (i : Int) + 1 := by omega
      rw [e1]
      exact he2
    · exact st2.1.at fun o q => (sb.2 it (Ne.symm hne)).trans q
    · have cases2 : b = e ∨ b = it := by simpa using hb
      have lt : b < s.heap.objs.size := by
        rcases cases2 with z | z
        · rw [z]
          exact lt_e
        · rw [z]
          exact lt_it
      rw [upd_ne (Nat.ne_of_lt lt)]
      exact (hf b hb).1
  · intro X hP hw hK hc i pins s σ H E I hf st hg
    subst hP hw hK
    obtain ⟨⟨old, he⟩, hit, hne⟩ := st
    obtain ⟨xs, hq, hx⟩ := hg
    obtain ⟨its, rv, p, hz⟩ := I.tuple hq
    obtain ⟨f0, f1, f2, f3, f4, f5⟩ := hf it (by simp)
    have sz : i = its.toArray.size := by
      rw [List.size_toArray, ← rv.length, hx]
    have Dr := Draws.tuple (prog := X.prog) (w := X.w) (A := X.A.in1) (I.ok.hd hc) it a (Ne.symm na) its.toArray
    refine wpAny_pyNext_enum_endD Dr he (by rw [← sz]; exact ⟨hit, tup_is p⟩) fun h' eb => ⟨rfl, ?_⟩
    exact I.turned (t' := s.toks) (fun b o hb q => eb b o hb q) f0 f1 f3 f4 f5
  · rintro A i s Q E ⟨⟨_, he⟩, _⟩ h
    exact wpAny_pyIter_enum he h
def iEnT (K : PySem.W.Frag) (ta : TA) : TI := fun σ H R => ta σ H fun vs H1 => ∃ a xs, vs = [.ref a] ∧ SqT K H1 a xs ∧ R (ItE K a) H1
theorem pi_enT {X : Cx} {e : Expr} {ta : TA} {p pos tpos : Pos} {elts : List Expr} {kk : Nat} (hg : Gl X "enumerate") (hm : X.mg "enumerate" = none) (ha : PA X [e] ta) (hs : starEach [e] X.env = [(false, eval e X.env)] := by rfl) :
    PI X (.Tuple elts kk tpos) (.Call (.Name "enumerate" p) [e] [] pos) (iEnT X.K ta) := by
  constructor
  intro pins s σ H R I h
  refine Call_ (ld_blt I hg hm boot_enumerate (PyProof.Rows.callWith_type1 (thn (ha.run pos pins s σ H _ I h) ?_) hs rfl))
  rintro us s1 ⟨vs, H1, I1, r1, a, xs, ex, hq, q⟩
  subst ex
  match us, r1 with
  | [u], .cons ru .nil =>
    have eu : u = Value.ref a := ru
    subst eu
    obtain ⟨its, rv, pt, hz⟩ := I1.tuple hq
    have lt : a < s1.heap.objs.size := by
      obtain ⟨o, ho, _⟩ := pt
      exact Heap.lt_size ho
    refine enCall (begins_tuple a its.toArray) (tup_is pt) fun h' he hit hsz hk => wpAny_pyIter_enum he ?_
    have I2 : Inv X pins σ H1 { s1 with heap := h' } := I1.kept (t' := s1.toks) hk
    refine ⟨s1.heap.objs.size + 1, [s1.heap.objs.size + 1, s1.heap.objs.size], _, _, H1, rfl, I2, turnE a (s1.heap.objs.size + 1) s1.heap.objs.size (Nat.ne_of_gt lt) (Nat.ne_of_gt (Nat.lt_succ_of_lt lt)), ⟨⟨.none, he⟩, ⟨_, hit, rfl, rfl⟩, Nat.succ_ne_self _⟩, fun b hb => ?_, q⟩
    have cases2 : b = s1.heap.objs.size + 1 ∨ b = s1.heap.objs.size := by simpa using hb
    have le : s1.heap.objs.size ≤ b := by
      rcases cases2 with z | z
      · rw [z]
        exact Nat.le_add_right _ _
      · rw [z]
        exact Nat.le_refl _
    exact I1.fpOk le (I1.hok.fresh le)
theorem for_enT {K : PySem.W.Frag} {a : Addr} {xs : List V} {g : TG} {tb : TS} {D : Ends} {σ : L2.St} {H : Hp} (Pv : Nat → L2.St → Hp → Prop) (h0 : Pv 0 σ H) (hl : ∀ i σ H, Pv i σ H → SqT K H a xs)
    (hs : ∀ i x σ H T, xs[i]? = some x → Pv i σ H → H T = none → g (.ref T) σ (upd H T (.tup [.int (i : Nat), x])) fun σ2 H2 => tb { D with nx := Pv (i + 1), ct := Pv (i + 1), bk := D.nx } σ2 H2) (hd : ∀ σ H, Pv xs.length σ H → D.nx σ H) :
    ∃ W : Nat → Nat → L2.St → Hp → Prop, (∃ m, W 0 m σ H) ∧ ∀ i m σ H, W i m σ H →
      ((ItE K a).stop i H ∧ D.nx σ H) ∨ ((ItE K a).go i H ∧ ∃ N : L2.St → Hp → Prop, (∀ σ' H', N σ' H' → ∃ m', m' < m ∧ W (i + 1) m' σ' H') ∧ ∀ x H', (ItE K a).yld i H x H' → g x σ H' fun σ2 H2 => tb { D with nx := N, ct := N, bk := D.nx } σ2 H2) := by
  refine ⟨fun i m σ H => m = xs.length - i ∧ i ≤ xs.length ∧ Pv i σ H, ⟨xs.length, by simp, Nat.zero_le _, h0⟩, ?_⟩
  rintro i m σ H ⟨rfl, hi, pv⟩
  have sq := hl i σ H pv
  by_cases lt : i < xs.length
  · right
    have hx : xs[i]? = some xs[i] := List.getElem?_eq_getElem lt
    refine ⟨⟨xs, xs[i], sq, hx⟩, Pv (i + 1), ?_, ?_⟩
    · intro σ' H' z
      exact ⟨xs.length - (i + 1), by omega, rfl, lt, z⟩
    · rintro v H' ⟨T, x, rfl, hT, rfl, same⟩
      exact hs i x σ H T (same xs sq) pv hT
  · left
    have e : i = xs.length := by omega
    subst e
    exact ⟨⟨xs, sq, rfl⟩, hd σ H pv⟩
section
variable {X : Cx} {C : Ct} {env : En} {cs : Cells} {P : Pst} {pos p pc tpos : Pos} {e : Expr} {elts : List Expr} {kk : Nat} {body : List Stmt}
/-- for i, x in enumerate(a tuple of data) -/
theorem as_enT {g : TG} {t : Da → En → (En → Prop) → Prop} (hc : X.calm = true) (hp : PassesOwn (model X.prog X.w) X.A X.env X.xe) (hg : Gl X "enumerate") (hm : X.mg "enumerate" = none) (hG : PG X (.Tuple elts kk tpos) g) (hT : TgS C.ca X.K g t)
    (h : AX X C e env cs fun x c1 => ∃ ds, x = .im (.tup ds) ∧ ∃ I : Iv, I 0 env c1 ∧ (∀ (i : Nat) d env1 c2, ds[i]? = some d → I i env1 c2 → t (.tup [.int (i : Nat), d]) env1 fun env2 => AB X C body env2 c2 { nx := I (i + 1), ct := I (i + 1), bk := P.nx, rt := P.rt }) ∧ ∀ env1 c2, I ds.length env1 c2 → P.nx env1 c2)
    (hs : starEach [e] X.env = [(false, eval e X.env)] := by rfl) (hf : ∀ x, foldedSetIterable (.Call (.Name "enumerate" p) [e] [] pc) X.env x = pure x := by intro _; rfl) : AS X C (.For (.Tuple elts kk tpos) (.Call (.Name "enumerate" p) [e] [] pc) body [] pos) env cs P := by
  refine (ps_for hp hc (pi_enT hg hm (pa_cons h pa_nil hs) hs) hG (ps_b3 (X := X) (C := C)) hf).imp fun D σ H ⟨ps, G, R, r, px, q⟩ => ?_
  refine ⟨ps, G, R, r, px, fun x c1 v G1 R1 H1 ⟨ds, ex, I, h0, hs, hd⟩ g1 r1 o1 => ?_⟩
  subst ex
  obtain ⟨a, xs, rfl, hS, dl⟩ := Dn.tup_inv o1
  refine ⟨a, xs, rfl, r1.wd.sqt hS, for_enT (xs := xs) (fun i σ' H' => ∃ env' c' ps' G' R', I i env' c' ∧ Gr ps G R ps' G' R' ∧ Ex G1 G' ∧ Rep C.ca X.K env' c' ps' σ' G' R' H') ⟨env, c1, ps, G1, R1, h0, g1, Ex.refl _, r1⟩ ?_ ?_ ?_⟩
  · rintro i σ' H' ⟨env', c', ps', G', R', hI, g', ex, r'⟩
    exact r'.wd.sqt (ex.sqt hS)
  · rintro i y σ' H' T hy ⟨env', c', ps', G', R', hI, g', ex, r'⟩ hn
    obtain ⟨d, hd2, od⟩ := dl.at_ hy
    have e2 := Ex.new (o := HO.tup [.int (i : Nat), y]) (r'.wd.freshG hn)
    have rT := r'.newG (o := HO.tup [.int (i : Nat), y]) hn
    have oT : Dn C.ca X.K (upd G' T (.tup [.int (i : Nat), y])) (.ref T) (.tup [.int (i : Nat), d]) := .tup (.inl (.inl upd_same)) (.cons (.int _) (.cons ((od.mono ex).mono e2) .nil))
    have g2 : Gr ps G R ps' (upd G' T (.tup [.int (i : Nat), y])) R' := g'.trans (Gr.data e2)
    refine hT _ _ _ _ _ _ _ _ _ _ _ rT oT (hs i d env' c' hd2 hI) fun env2 σ2 hb r2 => ⟨env2, c', _, hb, ps', _, R', r2, px.on g2, ?_, ?_, ?_, ?_⟩
    · intro e3 c3 ps3 σ3 G3 R3 H3 h3 g3 r3
      exact ⟨e3, c3, ps3, G3, R3, h3, g2.trans g3, (ex.trans e2).trans g3.ex, r3⟩
    · exact q.rt.on g2
    · exact q.nx.on g2
    · intro e3 c3 ps3 σ3 G3 R3 H3 h3 g3 r3
      exact ⟨e3, c3, ps3, G3, R3, h3, g2.trans g3, (ex.trans e2).trans g3.ex, r3⟩
  · rintro σ' H' ⟨env', c', ps', G', R', hI, g', ex, r'⟩
    rw [dl.length] at hI
    exact q.nx env' c' ps' σ' G' R' H' (hd env' c' hI) g' r'
end
end Al
/-! in of texts, slices of tuples, extend -/
namespace Al
open PySem PySem.Spec PyProof.Rows L2
section
variable {X : Cx} {C : Ct} {env : En} {cs : Cells} {k : KE} {kt : KT} {pos p p2 : Pos} {e a b c : Expr} {es : List Expr}
/-- a text in a tuple or list of texts -/
def sInT (g : Bool → Bool) : Sem2 := fun x y cs k => ∃ (i : Str) (ns : List Str), x = .im (.str i) ∧ (y = .im (.lst (ns.map .str)) ∨ y = .im (.tup (ns.map .str))) ∧ k (.im (.bl (g (ns.any fun j => j == i)))) cs
theorem inV_strs (i : Str) : ∀ ns : List Str, inV (.str i) (ns.map .str) = ns.any fun j => j == i
  | [] => rfl
  | n :: ns => by
    have z := inV_strs i ns
    unfold inV at z ⊢
    rw [List.map_cons, List.any_cons, List.any_cons, z]
    rfl
theorem flat_strs : ∀ ns : List Str, (ns.map V.str).all flatV = true
  | [] => rfl
  | n :: ns => flat_strs ns
theorem in_at {ca : Str → Addr} {K : PySem.W.Frag} {env : En} {cs : Cells} {ps : List Addr} {σ : L2.St} {G R H : Hp} {y : AV} {u : V} {ns : List Str} (r : Rep ca K env cs ps σ G R H) (oy : AVok ca K G ps u y) (hy : y = .im (.lst (ns.map .str)) ∨ y = .im (.tup (ns.map .str))) : ∃ p, u = .ref p ∧ (SqL K H p (ns.map V.str) ∨ SqT K H p (ns.map V.str)) := by
  rcases hy with rfl | rfl
  · obtain ⟨p, xs, e, t, l⟩ := Dn.lst_inv oy
    rw [l.strs] at t
    exact ⟨p, e, .inl (.inl (.inl (r.wd.g _ _ t)))⟩
  · obtain ⟨p, xs, e, t, l⟩ := Dn.tup_inv oy
    rw [l.strs] at t
    exact ⟨p, e, .inr (r.wd.sqt t)⟩
theorem os_inT {ca : Str → Addr} {K : PySem.W.Frag} : OpS ca K (rIn K false) (sInT id) := by
  rintro env cs ps σ G R H x y v u k Q r ox oy ⟨i, ns, rfl, hy, h⟩ q
  obtain ⟨p, e, hq⟩ := in_at r oy hy
  have e1 := Dn.str_inv ox
  subst e1
  refine ⟨p, _, e, hq, rfl, flat_strs ns, ?_⟩
  rw [inV_strs, if_neg Bool.false_ne_true]
  exact r.same q h (Dn.bl _)
theorem os_ninT {ca : Str → Addr} {K : PySem.W.Frag} : OpS ca K (rIn K true) (sInT not) := by
  rintro env cs ps σ G R H x y v u k Q r ox oy ⟨i, ns, rfl, hy, h⟩ q
  obtain ⟨p, e, hq⟩ := in_at r oy hy
  have e1 := Dn.str_inv ox
  subst e1
  refine ⟨p, _, e, hq, rfl, flat_strs ns, ?_⟩
  rw [inV_strs, if_pos rfl]
  exact r.same q h (Dn.bl _)
theorem at_inT (h : AX X C a env cs fun x c1 => AX X C b env c1 fun y c2 => sInT id x y c2 fun v c3 => ∃ z, v = .im (.bl z) ∧ kt z c3) (hm : behindInMarks .In b = false := by rfl) : AT X C (.Compare a [.In] [b] pos) env cs kt := at_cmpR op_in_seq os_inT hm h
theorem ax_inT (h : AX X C a env cs fun x c1 => AX X C b env c1 fun y c2 => sInT id x y c2 k) (hm : behindInMarks .In b = false := by rfl) : AX X C (.Compare a [.In] [b] pos) env cs k := ax_cmp op_in_seq os_inT hm h
theorem at_ninT (h : AX X C a env cs fun x c1 => AX X C b env c1 fun y c2 => sInT not x y c2 fun v c3 => ∃ z, v = .im (.bl z) ∧ kt z c3) (hm : behindInMarks .NotIn b = false := by rfl) : AT X C (.Compare a [.NotIn] [b] pos) env cs kt := at_cmpR op_notIn_seq os_ninT hm h
/-- one sign in a text -/
def sSgn (g : Bool → Bool) : Sem2 := fun x y cs k => ∃ (c : Nat) (z : Str), x = .im (.str ⟨#[c]⟩) ∧ y = .im (.str z) ∧ k (.im (.bl (g (decide (c ∈ z.cps.toList))))) cs
theorem os_sgn {ca : Str → Addr} {K : PySem.W.Frag} {g : Bool → Bool} : OpS ca K (fun x y H Q => ∃ (c : Nat) (z : Str), x = .str ⟨#[c]⟩ ∧ y = .str z ∧ Q (.bl (g (decide (c ∈ z.cps.toList)))) H) (sSgn g) := by
  rintro env cs ps σ G R H x y v u k Q r ox oy ⟨c, z, rfl, rfl, h⟩ q
  exact ⟨c, z, Dn.str_inv ox, Dn.str_inv oy, r.same q h (Dn.bl _)⟩
theorem at_ninS (h : AX X C a env cs fun x c1 => AX X C b env c1 fun y c2 => sSgn not x y c2 fun v c3 => ∃ z, v = .im (.bl z) ∧ kt z c3) (hm : behindInMarks .NotIn b = false := by rfl) : AT X C (.Compare a [.NotIn] [b] pos) env cs kt := at_cmpR (op_notIn_sign (X := X)) (os_sgn (g := not)) hm h
theorem at_inS (h : AX X C a env cs fun x c1 => AX X C b env c1 fun y c2 => sSgn id x y c2 fun v c3 => ∃ z, v = .im (.bl z) ∧ kt z c3) (hm : behindInMarks .In b = false := by rfl) : AT X C (.Compare a [.In] [b] pos) env cs kt := at_cmpR (op_in_sign (X := X)) (os_sgn (g := id)) hm h
/-- t[:n] of a tuple, less than the whole -/
def sTkT : Sem2 := fun x y cs k => ∃ (n : Nat) (l : List Da), y = .im (.int (n : Int)) ∧ x = .im (.tup l) ∧ n < l.length ∧ k (.im (.tup (l.take n))) cs
theorem ax_takeT (h : AX X C a env cs fun x c1 => AX X C b env c1 fun y c2 => sTkT x y c2 k) : AX X C (.Subscript a (.Slice none (some b) none p2) pos) env cs k :=
  (pe_slice sl_tup h po_none (po_some (pe_x2 (X := X) (C := C) (env := env) (k2 := fun x y c2 => sTkT x y c2 k)))).imp fun σ H Q ⟨ps, G, R, r, px, q⟩ => ⟨ps, G, R, r, px, fun x c1 v G1 R1 H1 hk g1 r1 o1 =>
    ⟨x, c1, hk, ps, G1, R1, r1, px.on g1, fun y c2 u G2 R2 H2 hf g2 r2 o2 => by
      obtain ⟨n, l, rfl, rfl, lt, hk2⟩ := hf
      refine ⟨(n : Int), Dn.int_inv o2, ?_⟩
      obtain ⟨p, xs, e1, t1, dl⟩ := Dn.tup_inv (o1.mono g2.ex (fun _ _ z => z))
      refine ⟨p, xs, e1, r2.wd.sqt t1, ?_, fun z hz => ?_⟩
      · rw [HT.sIx_none, HT.sIx_nat, dl.length]
        omega
      · rw [cut_take]
        exact r2.tup (q.on (g1.trans g2)) hk2 (dl.take n) hz⟩⟩
/-- o.extend(e), o a cell, e a list of data -/
theorem ax_extend {o : Expr} {apos : Pos} (h : AX X C o env cs fun y c1 => ∃ j ds0, y = .ow j ∧ c1[j]? = some (some ds0) ∧ AX X C e env c1 fun x c2 => ∃ ds l, x = .im (.lst l) ∧ c2[j]? = some (some ds) ∧ ds.length + l.length ≤ 16000000 ∧ k (.im .non) (c2.set j (some (ds ++ l))))
    (hbase : attributeBase o "extend" X.env (eval o X.env) = eval o X.env := by rfl)
    (hfew : ((backTo pos (starEach [e] X.env)).all (fun x => !x.1) && (backToKw pos (keywordEach [] X.env)).all (fun x => x.1.isSome) && decide ([e].length + ([] : List Keyword).length + (if ([] : List Keyword).isEmpty then 0 else 1) < 30)) = true := by rfl)
    (hline : (apos.endLine == pos.line) = true := by rfl) (hs : starEach [e] X.env = (false, eval e X.env) :: starEach [] X.env := by rfl) (hplain : (backTo pos (starEach [] X.env)).any (·.1) = false := by rfl) :
    AX X C (.Call (.Attribute o "extend" apos) [e] [] pos) env cs k := by
  refine (pe_bm PySem.F.plainAttrs_list PySem.F.slot_list_extend PySem.F.type_list_extend mt_extend h (pa_cons (show PE X e (fun σ H Q => ∃ j c1, AX X C e env c1 (fun x c2 => ∃ ds l, x = .im (.lst l) ∧ c2[j]? = some (some ds) ∧ ds.length + l.length ≤ 16000000 ∧ k (.im .non) (c2.set j (some (ds ++ l)))) ∧
    tX C X.K env c1 (fun x c2 => ∃ ds l, x = .im (.lst l) ∧ c2[j]? = some (some ds) ∧ ds.length + l.length ≤ 16000000 ∧ k (.im .non) (c2.set j (some (ds ++ l)))) σ H Q) from ⟨fun pins s σ H Q I ⟨j, c1, h, t⟩ => h.run pins s σ H Q I t⟩) pa_nil hs) hbase hfew hline hs hplain).imp
    fun σ H Q ⟨ps, G, R, r, px, q⟩ => ⟨ps, G, R, r, px, fun y c1 v G1 R1 H1 hk g1 r1 o1 => ?_⟩
  obtain ⟨j, ds0, ey, hc0, hk2⟩ := hk
  subst ey
  obtain ⟨p0, hp, rfl⟩ := o1
  obtain ⟨vs0, hR0, dl0⟩ := r1.cell j p0 ds0 hp hc0
  refine ⟨.inl ⟨rfl, vs0, .inl (.inl (r1.wd.r _ _ hR0))⟩, j, c1, hk2, ps, G1, R1, r1, px.on g1, fun x c2 u G2 R2 H2 hk3 g2 r2 o2 => ?_⟩
  obtain ⟨ds, l, ex, hc, hl, hk4⟩ := hk3
  subst ex
  obtain ⟨vs, hR, dl⟩ := r2.cell j p0 ds hp hc
  obtain ⟨b, ws, rfl, t2, dw⟩ := Dn.lst_inv o2
  refine ⟨p0, b, vs, ws, rfl, rfl, r2.wd.r _ _ hR, r2.wd.g _ _ t2, sz_of (by rw [dl.length, dw.length]; exact hl), ?_⟩
  exact q _ _ .non G2 _ _ hk4 ((g1.trans g2).trans (Gr.setC hp)) (r2.setC hp hR (dl.append dw)) .non
end
end Al
namespace Al
open PySem PySem.Spec PyProof.Rows L2
section
variable {X : Cx} {C : Ct} {env : En} {cs : Cells} {k : KE} {pos p : Pos} {e : Expr} {es : List Expr}
/-- tuple(a list, a cell, a tuple) -/
def sTof : SemA := fun as cs k => ∃ x d, as = [x] ∧ asD cs x = some d ∧ ∃ l, (d = .lst l ∨ d = .tup l) ∧ k (.im (.tup l)) cs
def rTof (K : PySem.W.Frag) : List V → Hp → VK → Prop := fun xs H Q => ∃ p ys, xs = [.ref p] ∧ ((SqL K H p ys ∧ ∀ l, H l = none → Q (.ref l) (upd H l (.tup ys))) ∨ (SqT K H p ys ∧ Q (.ref p) H))
theorem cs_tof {ca : Str → Addr} {K : PySem.W.Frag} : CbS ca K (rTof K) sTof := by
  rintro env cs ps σ G R H as ws k Q r o ⟨x, d, rfl, hd, l, hl, h⟩ q
  obtain ⟨w, rfl, o1⟩ := av1 o
  cases x with
  | im d' =>
    have e' := Option.some.inj hd
    subst e'
    rcases hl with rfl | rfl
    · obtain ⟨p, xs, rfl, t, dl⟩ := Dn.lst_inv o1
      exact ⟨p, xs, rfl, .inl ⟨.inl (.inl (r.wd.g _ _ t)), fun z hz => r.tup q h dl hz⟩⟩
    · obtain ⟨p, xs, rfl, t, dl⟩ := Dn.tup_inv o1
      exact ⟨p, xs, rfl, .inr ⟨r.wd.sqt t, r.same q h (.tup t dl)⟩⟩
  | ow j =>
    obtain ⟨p, hp, rfl⟩ := o1
    unfold asD at hd
    dsimp only at hd
    split at hd
    · rename_i l' hc
      have e' := Option.some.inj hd
      subst e'
      rcases hl with e2 | e2
      · cases e2
        obtain ⟨vs, hR, dl⟩ := r.cell j p _ hp hc
        exact ⟨p, vs, rfl, .inl ⟨.inl (.inl (r.wd.r _ _ hR)), fun z hz => r.tup q h dl hz⟩⟩
      · cases e2
    · cases hd
theorem ax_tof (hg : Gl X "tuple") (hm : X.mg "tuple" = none) (h : AA X C (e :: es) env cs fun as c1 => sTof as c1 k) (he : starEach (e :: es) X.env = (false, eval e X.env) :: starEach es X.env := by rfl) (hpl : (backTo pos (starEach es X.env)).any (·.1) = false := by rfl) :
    AX X C (.Call (.Name "tuple" p) (e :: es) [] pos) env cs k := ax_ct (call_tuple_of (X := X)) cs_tof hg hm (by decide +kernel) h (by decide) (by decide) he hpl
end
end Al
/-! Webs as lists of pairs of places: walks that meet no place twice, and what keeps every road on one of them. Nothing of the model is used. -/
namespace Wb
variable {α β : Type}
/-- the road i joins u and v -/
def Jn (E : List (α × α)) (i : Nat) (u v : α) : Prop := E[i]? = some (u, v) ∨ E[i]? = some (v, u)
theorem Jn.symm {E : List (α × α)} {i : Nat} {u v : α} (h : Jn E i u v) : Jn E i v u := h.elim .inr .inl
theorem Jn.lt {E : List (α × α)} {i : Nat} {u v : α} (h : Jn E i u v) : i < E.length := h.elim (fun e => (List.getElem?_eq_some_iff.mp e).1) fun e => (List.getElem?_eq_some_iff.mp e).1
/-- from u, having met m, to t over the roads is -/
inductive Wk (E : List (α × α)) (t : α) : α → List α → List Nat → Prop
  | nil {m : List α} : Wk E t t m []
  | cons {u v : α} {m : List α} {i : Nat} {is : List Nat} : u ≠ t → Jn E i u v → v ∉ m → Wk E t v (v :: m) is → Wk E t u m (i :: is)
/-- every road lies on a walk from s to t -/
def Vd (E : List (α × α)) (s t : α) : Prop := ∀ i, i < E.length → ∃ is, i ∈ is ∧ Wk E t s [s] is
theorem Wk.mem_lt {E : List (α × α)} {t u : α} {m : List α} {is : List Nat} (w : Wk E t u m is) : ∀ i ∈ is, i < E.length := by
  induction w with
  | nil => intro i h; cases h
  | cons hu hj hv _ ih =>
    intro i h
    rcases List.mem_cons.mp h with e | h
    · rw [e]
      exact hj.lt
    · exact ih i h
/-- another list of roads, other names (one alone for each place of S), other numbers of the roads; the met places are held as a set -/
theorem Wk.mapS {E : List (α × α)} {E' : List (β × β)} {t u : α} {m : List α} {is : List Nat} {f : α → β} {σ : Nat → Nat} (S : α → Prop) (w : Wk E t u m is) (inj : ∀ x y, S x → S y → f x = f y → x = y) (ends : ∀ i u v, Jn E i u v → S u) (st : S t) (jn : ∀ i u v, Jn E i u v → Jn E' (σ i) (f u) (f v)) :
    S u → ∀ m' : List β, (∀ x, S x → f x ∈ m' → x ∈ m) → Wk E' (f t) (f u) m' (is.map σ) := by
  induction w with
  | nil => intro _ m' _; exact .nil
  | cons hu hj hv _ ih =>
    intro su m' hm
    have sv := ends _ _ _ hj.symm
    refine .cons (fun e => hu (inj _ _ su st e)) (jn _ _ _ hj) (fun h => hv (hm _ sv h)) (ih sv _ fun x sx hx => ?_)
    rcases List.mem_cons.mp hx with e | hx
    · rw [inj _ _ sx sv e]
      exact List.mem_cons_self ..
    · exact List.mem_cons_of_mem _ (hm x sx hx)
theorem Wk.map {E : List (α × α)} {E' : List (β × β)} {t u : α} {m : List α} {is : List Nat} {f : α → β} {σ : Nat → Nat} (w : Wk E t u m is) (inj : ∀ x y, f x = f y → x = y) (jn : ∀ i u v, Jn E i u v → Jn E' (σ i) (f u) (f v)) (m' : List β) (h : ∀ x, f x ∈ m' → x ∈ m) : Wk E' (f t) (f u) m' (is.map σ) :=
  w.mapS (fun _ => True) (fun x y _ _ => inj x y) (fun _ _ _ _ => trivial) trivial jn trivial m' fun x _ => h x
theorem Wk.met {E : List (α × α)} {t u : α} {m m' : List α} {is : List Nat} (w : Wk E t u m is) (h : ∀ x, x ∈ m' → x ∈ m) : Wk E t u m' is := by
  have z := w.map (f := id) (σ := id) (E' := E) (fun _ _ e => e) (fun _ _ _ j => j) m' h
  rwa [List.map_id] at z
/-! ### a road put beside another one -/
theorem Jn.app {E F : List (α × α)} {i : Nat} {u v : α} (h : Jn E i u v) : Jn (E ++ F) i u v := by
  have lt := h.lt
  rcases h with h | h
  · exact .inl (by rw [List.getElem?_append_left lt]; exact h)
  · exact .inr (by rw [List.getElem?_append_left lt]; exact h)
theorem vd_beside {E : List (α × α)} {s t : α} {a : Nat} {e : α × α} (h : Vd E s t) (ha : E[a]? = some e) : Vd (E ++ [e]) s t := by
  intro i hi
  rw [List.length_append, List.length_singleton] at hi
  by_cases c : i < E.length
  · obtain ⟨is, m, w⟩ := h i c
    have z := w.map (f := id) (σ := id) (E' := E ++ [e]) (fun _ _ e => e) (fun _ _ _ j => j.app) [s] (fun _ h => h)
    rw [List.map_id] at z
    exact ⟨is, m, z⟩
  · have ei : i = E.length := by omega
    obtain ⟨is, m, w⟩ := h a (List.getElem?_eq_some_iff.mp ha).1
    have z := w.map (f := id) (σ := fun j => if j = a then E.length else j) (E' := E ++ [e]) (fun _ _ e => e) (fun j u v q => ?_) [s] (fun _ h => h)
    · exact ⟨_, List.mem_map.mpr ⟨a, m, by rw [if_pos rfl, ei]⟩, z⟩
    · by_cases ja : j = a
      · subst ja
        rw [if_pos rfl]
        have last : (E ++ [e])[E.length]? = some e := by simp
        rcases q with q | q
        · rw [ha] at q
          cases q
          exact .inl last
        · rw [ha] at q
          cases q
          exact .inr last
      · rw [if_neg ja]
        exact q.app
/-! ### a road parted by a new place -/
section
variable {E : List (α × α)} {a : Nat} {lo hi fr t : α}
theorem set_ne {i : Nat} {u v : α} {F : List (α × α)} {x : α × α} (h : Jn E i u v) (n : i ≠ a) : Jn (E.set a x ++ F) i u v := by
  have lt := h.lt
  have e : (E.set a x ++ F)[i]? = E[i]? := by rw [List.getElem?_append_left (by rw [List.length_set]; exact lt), List.getElem?_set_ne (Ne.symm n)]
  unfold Jn
  rw [e]
  exact h
theorem set_at {F : List (α × α)} {x : α × α} (ha : a < E.length) : (E.set a x ++ F)[a]? = some x := by rw [List.getElem?_append_left (by rw [List.length_set]; exact ha), List.getElem?_set_self ha]
theorem set_last {x y : α × α} : (E.set a x ++ [y])[E.length]? = some y := by rw [List.getElem?_append_right (by rw [List.length_set]; exact Nat.le_refl _), List.length_set, Nat.sub_self]; rfl
/-- behind the parted road: both its ends have been met -/
theorem Wk.behind {u : α} {m : List α} {is : List Nat} (w : Wk E t u m is) (hn : ∀ i x y, Jn E i x y → x ≠ fr) (ha : E[a]? = some (lo, hi)) : ∀ m' : List α, lo ∈ m → hi ∈ m → u ∈ m → (∀ x, x ∈ m' → x ∈ m ∨ x = fr) → Wk (E.set a (lo, fr) ++ [(fr, hi)]) t u m' is := by
  induction w with
  | nil => intro m' _ _ _ _; exact .nil
  | @cons u v m i is hu hj hv _ ih =>
    intro m' l1 l2 um hm
    have ne : i ≠ a := fun e => by
      subst e
      rcases hj with q | q
      · rw [ha] at q
        cases q
        exact hv l2
      · rw [ha] at q
        cases q
        exact hv l1
    refine .cons hu (set_ne hj ne) (fun h => ?_) (ih _ (List.mem_cons_of_mem _ l1) (List.mem_cons_of_mem _ l2) (List.mem_cons_self ..) fun x hx => ?_)
    · rcases hm v h with q | q
      · exact hv q
      · exact hn i v u hj.symm q
    · rcases List.mem_cons.mp hx with q | q
      · rw [q]
        exact .inl (List.mem_cons_self ..)
      · rcases hm x q with q | q
        · exact .inl (List.mem_cons_of_mem _ q)
        · exact .inr q
/-- the walk in the parted web: over a and the new road where it went over a -/
theorem Wk.parted {u : α} {m : List α} {is : List Nat} (w : Wk E t u m is) (hn : ∀ i x y, Jn E i x y → x ≠ fr) (ht : t ≠ fr) (ha : E[a]? = some (lo, hi)) : u ∈ m → ∀ m' : List α, (∀ x, x ∈ m' → x ∈ m) → fr ∉ m' →
    ∃ js, Wk (E.set a (lo, fr) ++ [(fr, hi)]) t u m' js ∧ (∀ i ∈ is, i ∈ js) ∧ (a ∈ is → E.length ∈ js) := by
  have al := (List.getElem?_eq_some_iff.mp ha).1
  induction w with
  | nil => intro _ m' _ _; exact ⟨[], .nil, fun _ h => h, fun h => nomatch h⟩
  | @cons u v m i is hu hj hv w ih =>
    intro um m' hm fm
    have vf : v ≠ fr := hn i v u hj.symm
    by_cases ne : i = a
    · subst ne
      -- the rest, behind both ends
      have rest : ∀ m2 : List α, (lo ∈ v :: m) → (hi ∈ v :: m) → (∀ x, x ∈ m2 → x ∈ v :: m ∨ x = fr) → Wk (E.set i (lo, fr) ++ [(fr, hi)]) t v m2 is := fun m2 l1 l2 h => w.behind hn ha m2 l1 l2 (List.mem_cons_self ..) h
      have mm : ∀ x, x ∈ v :: fr :: m' → x ∈ v :: m ∨ x = fr := by
        intro x hx
        rcases List.mem_cons.mp hx with q | hx
        · rw [q]
          exact .inl (List.mem_cons_self ..)
        · rcases List.mem_cons.mp hx with q | hx
          · exact .inr q
          · exact .inl (List.mem_cons_of_mem _ (hm x hx))
      have vm : v ∉ fr :: m' := fun h => by
        rcases List.mem_cons.mp h with q | q
        · exact vf q
        · exact hv (hm v q)
      rcases hj with q | q
      · rw [ha] at q
        cases q
        refine ⟨i :: E.length :: is, .cons hu (.inl (set_at al)) fm (.cons (Ne.symm ht) (.inl set_last) vm (rest _ (List.mem_cons_of_mem _ um) (List.mem_cons_self ..) mm)), fun j h => ?_, fun _ => by simp⟩
        rcases List.mem_cons.mp h with q | q
        · rw [q]
          simp
        · simp [q]
      · rw [ha] at q
        cases q
        refine ⟨E.length :: i :: is, .cons hu (.inr set_last) fm (.cons (Ne.symm ht) (.inr (set_at al)) vm (rest _ (List.mem_cons_self ..) (List.mem_cons_of_mem _ um) mm)), fun j h => ?_, fun _ => by simp⟩
        rcases List.mem_cons.mp h with q | q
        · rw [q]
          simp
        · simp [q]
    · obtain ⟨js, wj, h1, h2⟩ := ih (List.mem_cons_self ..) (v :: m') (fun x hx => by
        rcases List.mem_cons.mp hx with q | q
        · rw [q]
          exact List.mem_cons_self ..
        · exact List.mem_cons_of_mem _ (hm x q)) (fun h => by
        rcases List.mem_cons.mp h with q | q
        · exact vf q.symm
        · exact fm q)
      refine ⟨i :: js, .cons hu (set_ne hj ne) (fun h => hv (hm v h)) wj, fun j h => ?_, fun h => ?_⟩
      · rcases List.mem_cons.mp h with q | q
        · rw [q]
          exact List.mem_cons_self ..
        · exact List.mem_cons_of_mem _ (h1 j q)
      · rcases List.mem_cons.mp h with q | q
        · exact absurd q.symm ne
        · exact List.mem_cons_of_mem _ (h2 q)
theorem vd_parted {s : α} (h : Vd E s t) (ha : E[a]? = some (lo, hi)) (hn : ∀ i x y, Jn E i x y → x ≠ fr) (hs : s ≠ fr) (ht : t ≠ fr) : Vd (E.set a (lo, fr) ++ [(fr, hi)]) s t := by
  intro i hi'
  rw [List.length_append, List.length_set, List.length_singleton] at hi'
  have fm : fr ∉ [s] := fun q => hs (List.mem_singleton.mp q).symm
  by_cases c : i < E.length
  · obtain ⟨is, m, w⟩ := h i c
    obtain ⟨js, wj, h1, _⟩ := w.parted hn ht ha (List.mem_cons_self ..) [s] (fun _ h => h) fm
    exact ⟨js, h1 i m, wj⟩
  · have ei : i = E.length := by omega
    obtain ⟨is, m, w⟩ := h a (List.getElem?_eq_some_iff.mp ha).1
    obtain ⟨js, wj, _, h2⟩ := w.parted hn ht ha (List.mem_cons_self ..) [s] (fun _ h => h) fm
    exact ⟨js, by rw [ei]; exact h2 m, wj⟩
end
/-! ### other names, another order -/
theorem vd_map {E : List (α × α)} {E' : List (β × β)} {s t : α} {f : α → β} {σ : Nat → Nat} (S : α → Prop) (h : Vd E s t) (inj : ∀ x y, S x → S y → f x = f y → x = y) (ends : ∀ i u v, Jn E i u v → S u) (ss : S s) (st : S t) (jn : ∀ i u v, Jn E i u v → Jn E' (σ i) (f u) (f v))
    (all : ∀ j, j < E'.length → ∃ i, i < E.length ∧ σ i = j) : Vd E' (f s) (f t) := by
  intro j hj
  obtain ⟨i, hi, e⟩ := all j hj
  obtain ⟨is, m, w⟩ := h i hi
  refine ⟨_, List.mem_map.mpr ⟨i, m, e⟩, w.mapS S inj ends st jn ss [f s] fun x sx hx => ?_⟩
  rw [inj _ _ sx ss (List.mem_singleton.mp hx)]
  exact List.mem_cons_self ..
/-! ### all walks, found by going on from road to road -/
section
variable [DecidableEq α]
def far (r : α × α) (u : α) : α := if u = r.1 then r.2 else r.1
/-- the walks from u that meet none of m, each behind b; n: how deep it may go -/
def dfs (E : List (α × α)) (t : α) : Nat → α → List α → List Nat → List (List Nat)
  | 0, _, _, _ => []
  | n + 1, u, m, b => if u = t then [b] else (List.range E.length).flatMap fun i => match E[i]? with
    | some r => if (u = r.1 ∨ u = r.2) ∧ far r u ∉ m then dfs E t n (far r u) (far r u :: m) (b ++ [i]) else []
    | none => []
theorem far_jn {E : List (α × α)} {i : Nat} {u v : α} (h : Jn E i u v) (ne : v ≠ u) : ∃ r, E[i]? = some r ∧ (u = r.1 ∨ u = r.2) ∧ far r u = v := by
  rcases h with e | e
  · exact ⟨_, e, .inl rfl, if_pos rfl⟩
  · exact ⟨_, e, .inr rfl, if_neg (Ne.symm ne)⟩
theorem Wk.found {E : List (α × α)} {t u : α} {m : List α} {is : List Nat} (w : Wk E t u m is) : ∀ (n : Nat) (b : List Nat), is.length < n → u ∈ m → b ++ is ∈ dfs E t n u m b := by
  induction w with
  | nil =>
    intro n b h _
    cases n with
    | zero => omega
    | succ n =>
      rw [dfs, if_pos rfl, List.append_nil]
      exact List.mem_cons_self ..
  | @cons u v m i is hu hj hv _ ih =>
    intro n b h um
    cases n with
    | zero => omega
    | succ n =>
      rw [dfs, if_neg hu]
      obtain ⟨r, e1, e2, e3⟩ := far_jn hj fun e => hv (by rw [e]; exact um)
      refine List.mem_flatMap.mpr ⟨i, List.mem_range.mpr hj.lt, ?_⟩
      rw [e1]
      dsimp only
      rw [e3, if_pos ⟨e2, hv⟩]
      have z := ih n (b ++ [i]) (by rw [List.length_cons] at h; omega) (List.mem_cons_self ..)
      rwa [List.append_assoc] at z
/-- the walks that are found are walks -/
theorem dfs_wk {E : List (α × α)} {t : α} : ∀ (n : Nat) (u : α) (m : List α) (b c : List Nat), c ∈ dfs E t n u m b → ∃ is, c = b ++ is ∧ Wk E t u m is
  | 0, u, m, b, c, h => by
    rw [dfs] at h
    cases h
  | n + 1, u, m, b, c, h => by
    rw [dfs] at h
    split at h
    · rename_i e
      subst e
      exact ⟨[], by rw [List.append_nil]; exact List.mem_singleton.mp h, .nil⟩
    · rename_i hu
      obtain ⟨i, _, h⟩ := List.mem_flatMap.mp h
      split at h
      · rename_i r er
        split at h
        · rename_i hc
          obtain ⟨is, e, w⟩ := dfs_wk n _ _ _ _ h
          refine ⟨i :: is, by rw [e, List.append_assoc]; rfl, .cons hu ?_ hc.2 w⟩
          unfold far
          by_cases z : u = r.1
          · rw [if_pos z, z]
            exact .inl er
          · rw [if_neg z, hc.1.resolve_left z]
            exact .inr er
        · cases h
      · cases h
end
/-! ### how long a walk is -/
theorem Wk.once {E : List (α × α)} {t u : α} {m : List α} {is : List Nat} (w : Wk E t u m is) : u ∈ m → is.Nodup ∧ ∀ i ∈ is, ∀ x y, Jn E i x y → x ∈ m → y ∈ m → False := by
  induction w with
  | nil => intro _; exact ⟨List.nodup_nil, fun i h => nomatch h⟩
  | @cons u v m i is hu hj hv _ ih =>
    intro um
    obtain ⟨nd, out⟩ := ih (List.mem_cons_self ..)
    have ni : i ∉ is := fun h => out i h u v hj (List.mem_cons_of_mem _ um) (List.mem_cons_self ..)
    refine ⟨List.nodup_cons.mpr ⟨ni, nd⟩, fun j h x y q xm ym => ?_⟩
    rcases List.mem_cons.mp h with e | h
    · subst e
      rcases hj with a | a <;> rcases q with b | b <;> rw [a] at b <;> cases b
      · exact hv ym
      · exact hv xm
      · exact hv xm
      · exact hv ym
    · exact out j h x y q (List.mem_cons_of_mem _ xm) (List.mem_cons_of_mem _ ym)
theorem nodup_len : ∀ (n : Nat) (l : List Nat), l.Nodup → (∀ i ∈ l, i < n) → l.length ≤ n
  | 0, l, _, h => by
    cases l with
    | nil => exact Nat.le_refl _
    | cons a l => exact absurd (h a (List.mem_cons_self ..)) (Nat.not_lt_zero _)
  | n + 1, l, nd, h => by
    have z := nodup_len n (l.filter fun i => i != n) (nd.filter _) fun i hi => by
      have m := List.mem_filter.mp hi
      have l1 := h i m.1
      have l2 : i ≠ n := by simpa using m.2
      omega
    by_cases c : n ∈ l
    · have e : (l.filter fun i => i != n) = l.erase n := by rw [nd.erase_eq_filter]
      rw [e, List.length_erase_of_mem c] at z
      omega
    · have e : (l.filter fun i => i != n) = l := List.filter_eq_self.mpr fun i hi => by
        have : i ≠ n := fun q => c (by rw [← q]; exact hi)
        simpa using this
      rw [e] at z
      omega
theorem Wk.short {E : List (α × α)} {t u : α} {m : List α} {is : List Nat} (w : Wk E t u m is) (um : u ∈ m) : is.length ≤ E.length := nodup_len _ _ (w.once um).1 w.mem_lt
/-- every road of a web lies on a walk that is found -/
theorem vd_used [DecidableEq α] {E : List (α × α)} {s t : α} (h : Vd E s t) (i : Nat) (hi : i < E.length) : ∃ c ∈ dfs E t (E.length + 1) s [s] [], i ∈ c := by
  obtain ⟨is, m, w⟩ := h i hi
  have z := w.found (E.length + 1) [] (Nat.lt_succ_of_le (w.short (List.mem_cons_self ..))) (List.mem_cons_self ..)
  exact ⟨_, z, by rw [List.nil_append]; exact m⟩
/-! ### drawn webs: places 0, 1, .. n - 1, from 0 to 1 -/
structure Gd (E : List (Nat × Nat)) (n : Nat) : Prop where
  vd : Vd E 0 1
  lt : ∀ e ∈ E, e.1 < n ∧ e.2 < n
  ne : ∀ e ∈ E, e.1 ≠ e.2
  two : 2 ≤ n
theorem Gd.jn {E : List (Nat × Nat)} {n i u v : Nat} (g : Gd E n) (h : Jn E i u v) : u < n := by
  rcases h with e | e
  · exact (g.lt _ (List.mem_of_getElem? e)).1
  · exact (g.lt _ (List.mem_of_getElem? e)).2
theorem Gd.beside {E : List (Nat × Nat)} {n a : Nat} {e : Nat × Nat} (g : Gd E n) (ha : E[a]? = some e) : Gd (E ++ [e]) n := by
  have m := List.mem_of_getElem? ha
  refine ⟨vd_beside g.vd ha, fun x hx => ?_, fun x hx => ?_, g.two⟩
  · rcases List.mem_append.mp hx with h | h
    · exact g.lt x h
    · rw [List.mem_singleton.mp h]
      exact g.lt e m
  · rcases List.mem_append.mp hx with h | h
    · exact g.ne x h
    · rw [List.mem_singleton.mp h]
      exact g.ne e m
theorem Gd.parted {E : List (Nat × Nat)} {n a lo hi : Nat} (g : Gd E n) (ha : E[a]? = some (lo, hi)) : Gd (E.set a (lo, n) ++ [(n, hi)]) (n + 1) := by
  have m := List.mem_of_getElem? ha
  have l := g.lt _ m
  have two := g.two
  refine ⟨vd_parted g.vd ha (fun i x y q => Nat.ne_of_lt (g.jn q)) (by omega) (by omega), fun x hx => ?_, fun x hx => ?_, by omega⟩
  · rcases List.mem_append.mp hx with h | h
    · rcases List.mem_or_eq_of_mem_set h with h | h
      · have := g.lt x h
        omega
      · subst h
        dsimp only at l ⊢
        omega
    · rw [List.mem_singleton.mp h]
      dsimp only at l ⊢
      omega
  · rcases List.mem_append.mp hx with h | h
    · rcases List.mem_or_eq_of_mem_set h with h | h
      · exact g.ne x h
      · subst h
        dsimp only at l ⊢
        omega
    · rw [List.mem_singleton.mp h]
      dsimp only at l ⊢
      omega
/-- by walks that are told -/
theorem vd_of {E : List (Nat × Nat)} {s t : Nat} (n : Nat) (h : ((List.range E.length).all fun i => (dfs E t n s [s] []).any fun c => c.contains i) = true) : Vd E s t := by
  intro i hi
  have z := List.all_eq_true.mp h i (List.mem_range.mpr hi)
  obtain ⟨c, hc, m⟩ := List.any_eq_true.mp z
  obtain ⟨is, e, w⟩ := dfs_wk n _ _ _ _ hc
  rw [List.nil_append] at e
  subst e
  exact ⟨c, by simpa using m, w⟩
theorem gd_made : Gd [(0, 1)] 2 := ⟨vd_of 5 (by decide), by decide, by decide, by decide⟩
theorem gd_cross : Gd [(0, 2), (0, 3), (2, 3), (2, 1), (3, 1)] 4 := ⟨vd_of 7 (by decide), by decide, by decide, by decide⟩
theorem gd_cross2 : Gd [(0, 4), (4, 2), (4, 3), (2, 3), (2, 1), (3, 1)] 5 := ⟨vd_of 8 (by decide), by decide, by decide, by decide⟩
theorem gd_cross3 : Gd [(0, 2), (0, 3), (2, 3), (2, 4), (3, 4), (4, 1)] 5 := ⟨vd_of 8 (by decide), by decide, by decide, by decide⟩
end Wb
/-! x, y = a fresh list, b; x, y = a list -/
namespace Al
open PySem PySem.Spec PyProof.Rows L2
def tgL (n : Nat) (u : List Da → En → (En → Prop) → Prop) : Da → En → (En → Prop) → Prop := fun d env k => ∃ ds, d = .lst ds ∧ ds.length = n ∧ u ds env k
theorem tg_lst {ca : Str → Addr} {K : PySem.W.Frag} {n : Nat} {gs : TGs} {u : List Da → En → (En → Prop) → Prop} (h2 : TgsS ca K gs u) : TgS ca K (gLst K n gs) (tgL n u) := fun d v env cs ps σ G R H k Q r o ⟨ds, e, hl, h⟩ q => by
  subst e
  obtain ⟨p, xs, rfl, t, dl⟩ := Dn.lst_inv o
  exact ⟨p, xs, rfl, .inl (.inl (r.wd.g _ _ t)), by rw [dl.length]; exact hl, h2 _ _ _ _ _ _ _ _ _ _ _ r dl h q⟩
section
variable {ca : Str → Addr} {K : PySem.W.Frag} {env : En} {cs : Cells} {ps : List Addr} {σ : L2.St} {G R H : Hp} {p : Addr} {vs : List V} {ds : List Da}
/-- a list that nobody tracks yet, beside the cells -/
theorem Rep.beside (r : Rep ca K env cs ps σ G R H) (hp : H p = none) : Rep ca K env cs ps σ G (upd R p (.lst vs)) (upd H p (.lst vs)) ∧ Gr ps G R ps G (upd R p (.lst vs)) := by
  have hR := r.wd.freshR hp
  have hn := r.notin hp
  refine ⟨r.reR (r.wd.newR hp) fun q hq => upd_ne fun z => hn (by rw [← z]; exact hq), Ex.refl _, fun q o _ e => ?_, fun _ _ z => z, fun _ m n => absurd m n⟩
  rw [upd_ne fun z => by rw [z, hR] at e; cases e]
  exact e
theorem upd_cut {R : Hp} {o : HO} (h : R p = some o) : upd (cut R p) p o = R := by
  funext b
  by_cases e : b = p
  · rw [e, upd_same, h]
  · rw [upd_ne e, cut_ne e]
/-- from now on it is a cell -/
theorem Rep.adopt (r : Rep ca K env cs ps σ G R H) (hR : R p = some (.lst vs)) (hn : p ∉ ps) (dl : DnL ca K G vs ds) : Rep ca K env (cs ++ [some ds]) (ps ++ [p]) σ G R H := by
  have e1 := upd_cut hR
  have e2 := upd_cut (r.wd.r _ _ hR)
  have w1 : Wd G (upd (cut R p) p (.lst vs)) H := by
    rw [e1]
    exact r.wd
  obtain ⟨w2, _⟩ := w1.cut cut_same
  have r2 : Rep ca K env cs ps σ G (cut R p) (cut H p) := r.reR w2 fun q hq => cut_ne fun z => hn (by rw [← z]; exact hq)
  have r3 := r2.newC (vs := vs) cut_same dl
  rw [e1, e2] at r3
  exact r3
end
section
variable {X : Cx} {C : Ct} {env : En} {cs : Cells} {P : Pst} {pos pt pt2 px py : Pos} {a b : Expr}
theorem as_parL (i j : Nat) {x y : Str} {kt k2 : Nat} (hc : X.calm = true) (hN : X.N.Nodup) (hi : X.N[i]? = some x) (hj : X.N[j]? = some y) (hij : i ≠ j) (hx : X.env.scope.names.lookup x = some .local) (hy : X.env.scope.names.lookup y = some .local) (li : i < env.length) (lj : j < env.length)
    (h : AL X C a env cs fun ds c1 => AX X C b env c1 fun v c2 => ∃ d, v = .im d ∧ P.nx ((env.set i (some (.ow c2.length))).set j (some (.im d))) (c2 ++ [some ds]))
    (ha : starEach [a, b] X.env = (false, eval a X.env) :: starEach [b] X.env := by rfl) (hb : starEach [b] X.env = (false, eval b X.env) :: starEach [] X.env := by rfl)
    (hw : swappedStores [.Tuple [.Name x px, .Name y py] kt pt] (.Tuple [a, b] k2 pt2) X.env = pure (some [x, y]) := by rfl) (hs : swapsWithSole [.Tuple [.Name x px, .Name y py] kt pt] (.Tuple [a, b] k2 pt2) pos.line X.env = pure false := by rfl) :
    AS X C (.Assign [.Tuple [.Name x px, .Name y py] kt pt] (.Tuple [a, b] k2 pt2) pos) env cs P := by
  refine (ps_par hc hN hi hj hij hx hy (pa_cons h (pa_cons (pe_x2 (X := X) (C := C) (env := env) (k2 := fun w => match w with
    | .im (.lst ds) => fun v c2 => ∃ d, v = .im d ∧ P.nx ((env.set i (some (.ow c2.length))).set j (some (.im d))) (c2 ++ [some ds])
    | _ => fun _ _ => False)) pa_nil hb) ha) hw hs).imp ?_
  intro D σ H ⟨ps, G, R, r, px, q⟩
  refine ⟨ps, G, R, r, px, fun ds c1 p vs G1 R1 H1 hk g1 r1 hp dl => ?_⟩
  obtain ⟨rb, gb⟩ := r1.beside (vs := vs) hp
  have hR1 := r1.wd.freshR hp
  have hn := r1.notin hp
  refine ⟨.im (.lst ds), c1, hk, ps, G1, _, rb, px.on (g1.trans gb), fun v c2 w G2 R2 H2 hk2 g2 r2 o2 => ?_⟩
  obtain ⟨d, ed, hnx⟩ := hk2
  subst ed
  refine ⟨.ref p, w, rfl, ?_⟩
  have hR2 : R2 p = some (.lst vs) := g2.oth p _ hn upd_same
  have r3 := r2.adopt hR2 hn (dl.mono g2.ex)
  have gg : Gr ps G R (ps ++ [p]) G2 R2 := by
    have g12 := (g1.trans gb).trans g2
    refine ⟨g12.ex, g12.oth, fun k q e => ?_, fun q m n => ?_⟩
    · rw [List.getElem?_append_left (List.getElem?_eq_some_iff.mp e).1]
      exact e
    · have eq : q = p := by
        rcases List.mem_append.mp m with h | h
        · exact absurd h n
        · exact List.mem_singleton.mp h
      subst eq
      cases z : R q with
      | none => rfl
      | some o =>
        rw [g1.oth q o n z] at hR1
        cases hR1
  refine q.nx _ _ (ps ++ [p]) _ G2 R2 H2 hnx gg ((r3.setE (a := .ow c2.length) ⟨p, by rw [← r2.len, List.getElem?_append_right (Nat.le_refl _), Nat.sub_self]; rfl, rfl⟩ li).setE (a := .im d) o2 (by rw [List.length_set]; exact lj))
end
end Al
/-! list(a text), list(a list), pop, x, y = two fresh lists, sorted of texts -/
namespace Al
open PySem PySem.Spec PyProof.Rows L2
/-- the signs of a text -/
def sgs (z : Str) : List Da := z.cps.toList.map fun c => Da.str ⟨#[c]⟩
def sgV (z : Str) : List V := z.cps.toList.map fun c => V.str ⟨#[c]⟩
theorem call_list_txt {X : Cx} (hc : X.calm = true) : CallR X (.type "list") (fun xs H Q => ∃ z, xs = [.str z] ∧ z.length ≤ sizeLine ∧ ∀ l, H l = none → Q (.ref l) (upd H l (.lst (sgV z)))) := by
  intro pins s σ H xs us Q I r h
  obtain ⟨z, rfl, hz, q⟩ := h
  obtain ⟨u, rfl, t, rfl⟩ := vals1 r
  refine call_list_str (I.ok.hd hc) z t (hn := hz) fun h' tk acc' c' hk hS' hacc => ?_
  refine ⟨.ref s.heap.objs.size, upd H s.heap.objs.size (.lst (sgV z)), I.laid hk (Nat.le_refl _) (show ObjOk X.prog X.w _ h' _ (.lst (sgV z)) from ⟨?_, acc'.toList, c', ?_, by rw [Array.toArray_toList]; exact hS'⟩), rfl, q _ (I.hok.fresh (Nat.le_refl _))⟩
  · unfold sgV
    rw [List.length_map]
    exact hz
  · refine vals_of_at (by unfold sgV; rw [List.length_map, Array.length_toList, Array.length_toList]; exact hacc.1.symm) fun j x w h1 h2 => ?_
    obtain ⟨c, t2, hc2, rfl⟩ := hacc.2 j w (by rw [← Array.getElem?_toList]; exact h2)
    unfold sgV at h1
    rw [List.getElem?_map, Array.getElem?_toList, hc2] at h1
    have e := Option.some.inj h1
    subst e
    exact ⟨t2, rfl⟩
theorem dn_sgs {ca : Str → Addr} {K : PySem.W.Frag} {G : Hp} {z : Str} : DnL ca K G (sgV z) (sgs z) := by
  unfold sgV sgs
  generalize z.cps.toList = l
  induction l with
  | nil => exact .nil
  | cons c l ih => exact .cons (.str _) ih
/-- built-in functions that come to a fresh list -/
abbrev SemL := List AV → Cells → KL → Prop
def PostL (ca : Str → Addr) (K : PySem.W.Frag) (env : En) (ps : List Addr) (σ : L2.St) (G R : Hp) (k : KL) (Q : VK) : Prop := ∀ ds c1 p vs G1 R1 H1, k ds c1 → Gr ps G R ps G1 R1 → Rep ca K env c1 ps σ G1 R1 H1 → H1 p = none → DnL ca K G1 vs ds → Q (.ref p) (upd H1 p (.lst vs))
def CbL (ca : Str → Addr) (K : PySem.W.Frag) (r : List V → Hp → VK → Prop) (f : SemL) : Prop := ∀ (env : En) (cs : Cells) (ps : List Addr) (σ : L2.St) (G R H : Hp) (as : List AV) (ws : List V) (k : KL) (Q : VK), Rep ca K env cs ps σ G R H → AVokL ca K G ps ws as → f as cs k → PostL ca K env ps σ G R k Q → r ws H Q
section
variable {X : Cx} {C : Ct} {env : En} {cs : Cells} {kl : KL} {k : KE} {pos p : Pos} {e a b c : Expr} {es : List Expr} {x : Str}
theorem al_ct {T : String} {r : List V → Hp → VK → Prop} {f : SemL} (hc : CallR X (.type T) r) (hs : CbL C.ca X.K r f) (hg : Gl X x) (hm : X.mg x = none) (hv : bootBuiltins x = some (.type T)) (h : AA X C (e :: es) env cs fun as c1 => f as c1 kl) (hn : x ≠ "__name__" := by decide) (hdb : (x == ("__debug__" : Str)) = false := by decide)
    (he : starEach (e :: es) X.env = (false, eval e X.env) :: starEach es X.env := by rfl) (hpl : (backTo pos (starEach es X.env)).any (·.1) = false := by rfl) : AL X C (.Call (.Name x p) (e :: es) [] pos) env cs kl :=
  (pe_callTy hc hg hm hv h hn hdb he hpl).imp fun σ H Q ⟨ps, G, R, r, px, q⟩ => ⟨ps, G, R, r, px, fun as c1 ws G1 R1 H1 h1 g1 r1 o1 => hs _ _ _ _ _ _ _ as ws kl Q r1 o1 h1 fun ds c2 p vs G2 R2 H2 hk g2 r2 hp dl => q ds c2 p vs G2 R2 H2 hk (g1.trans g2) r2 hp dl⟩
theorem al_cb {id : String} {r : List V → Hp → VK → Prop} {f : SemL} (hc : CallR X (.builtin id) r) (hs : CbL C.ca X.K r f) (hg : Gl X x) (hm : X.mg x = none) (hv : bootBuiltins x = some (.builtin id)) (h : AA X C (e :: es) env cs fun as c1 => f as c1 kl) (hn : x ≠ "__name__" := by decide) (hdb : (x == ("__debug__" : Str)) = false := by decide)
    (he : starEach (e :: es) X.env = (false, eval e X.env) :: starEach es X.env := by rfl) (hpl : (backTo pos (starEach es X.env)).any (·.1) = false := by rfl) : AL X C (.Call (.Name x p) (e :: es) [] pos) env cs kl :=
  (pe_callB hc hg hm hv h hn hdb he hpl).imp fun σ H Q ⟨ps, G, R, r, px, q⟩ => ⟨ps, G, R, r, px, fun as c1 ws G1 R1 H1 h1 g1 r1 o1 => hs _ _ _ _ _ _ _ as ws kl Q r1 o1 h1 fun ds c2 p vs G2 R2 H2 hk g2 r2 hp dl => q ds c2 p vs G2 R2 H2 hk (g1.trans g2) r2 hp dl⟩
/-- list(a text) -/
def sLtx : SemL := fun as cs k => ∃ z : Str, as = [.im (.str z)] ∧ z.length ≤ 16000000 ∧ k (sgs z) cs
theorem cl_ltx {ca : Str → Addr} {K : PySem.W.Frag} : CbL ca K (fun xs H Q => ∃ z, xs = [.str z] ∧ z.length ≤ sizeLine ∧ ∀ l, H l = none → Q (.ref l) (upd H l (.lst (sgV z)))) sLtx := by
  rintro env cs ps σ G R H as ws k Q r o ⟨z, rfl, hz, hk⟩ q
  obtain ⟨w, rfl, o1⟩ := av1 o
  exact ⟨z, by rw [Dn.str_inv o1], sz_of hz, fun l hl => q _ cs l _ G R H hk (Gr.refl ps G R) r hl dn_sgs⟩
theorem al_ltx (hc : X.calm = true) (hg : Gl X "list") (hm : X.mg "list" = none) (h : AA X C (e :: es) env cs fun as c1 => sLtx as c1 kl) (he : starEach (e :: es) X.env = (false, eval e X.env) :: starEach es X.env := by rfl) (hpl : (backTo pos (starEach es X.env)).any (·.1) = false := by rfl) :
    AL X C (.Call (.Name "list" p) (e :: es) [] pos) env cs kl := al_ct (call_list_txt hc) cl_ltx hg hm (by decide +kernel) h (by decide) (by decide) he hpl
/-- list(a list, a tuple) -/
def sLof : SemL := fun as cs k => ∃ x d, as = [x] ∧ asD cs x = some d ∧ ∃ l, (d = .lst l ∨ d = .tup l) ∧ k l cs
theorem cl_lof {ca : Str → Addr} {K : PySem.W.Frag} : CbL ca K (fun xs H Q => ∃ p ys, xs = [.ref p] ∧ (SqL K H p ys ∨ SqT K H p ys) ∧ ∀ l, H l = none → Q (.ref l) (upd H l (.lst ys))) sLof := by
  rintro env cs ps σ G R H as ws k Q r o ⟨x, d, rfl, hd, l, hl, h⟩ q
  obtain ⟨w, rfl, o1⟩ := av1 o
  cases x with
  | im d' =>
    have e' := Option.some.inj hd
    subst e'
    rcases hl with rfl | rfl
    · obtain ⟨p, xs, rfl, t, dl⟩ := Dn.lst_inv o1
      exact ⟨p, xs, rfl, .inl (.inl (.inl (r.wd.g _ _ t))), fun z hz => q _ cs z _ G R H h (Gr.refl ps G R) r hz dl⟩
    · obtain ⟨p, xs, rfl, t, dl⟩ := Dn.tup_inv o1
      exact ⟨p, xs, rfl, .inr (r.wd.sqt t), fun z hz => q _ cs z _ G R H h (Gr.refl ps G R) r hz dl⟩
  | ow j =>
    obtain ⟨p, hp, rfl⟩ := o1
    unfold asD at hd
    dsimp only at hd
    split at hd
    · rename_i l' hc
      have e' := Option.some.inj hd
      subst e'
      rcases hl with e2 | e2
      · cases e2
        obtain ⟨vs, hR, dl⟩ := r.cell j p _ hp hc
        exact ⟨p, vs, rfl, .inl (.inl (.inl (r.wd.r _ _ hR))), fun z hz => q _ cs z _ G R H h (Gr.refl ps G R) r hz dl⟩
      · cases e2
    · cases hd
theorem al_lof (hg : Gl X "list") (hm : X.mg "list" = none) (h : AA X C (e :: es) env cs fun as c1 => sLof as c1 kl) (he : starEach (e :: es) X.env = (false, eval e X.env) :: starEach es X.env := by rfl) (hpl : (backTo pos (starEach es X.env)).any (·.1) = false := by rfl) :
    AL X C (.Call (.Name "list" p) (e :: es) [] pos) env cs kl := al_ct (call_list_of (X := X)) cl_lof hg hm (by decide +kernel) h (by decide) (by decide) he hpl
/-- sorted of a list of texts -/
def sSoS : SemL := fun as cs k => ∃ x xs, as = [x] ∧ asD cs x = some (.lst (xs.map Da.str)) ∧ xs.length < 64 ∧ ∀ ys : List Str, ys.Perm xs → sortedS ys = true → k (ys.map Da.str) cs
theorem cl_soS {ca : Str → Addr} {K : PySem.W.Frag} : CbL ca K (rSortedS K) sSoS := by
  rintro env cs ps σ G R H as ws k Q r o ⟨x, xs, rfl, hd, h64, h⟩ q
  obtain ⟨w, rfl, o1⟩ := av1 o
  have fin : ∃ a vs, w = .ref a ∧ SqL K H a vs ∧ DnL ca K G vs (xs.map Da.str) := by
    cases x with
    | im d' =>
      have e' := Option.some.inj hd
      subst e'
      obtain ⟨p, ys, rfl, t, dl⟩ := Dn.lst_inv o1
      exact ⟨p, ys, rfl, .inl (.inl (r.wd.g _ _ t)), dl⟩
    | ow j =>
      obtain ⟨p, hp, rfl⟩ := o1
      unfold asD at hd
      dsimp only at hd
      split at hd
      · rename_i l' hc
        have e' := Option.some.inj hd
        cases e'
        obtain ⟨vs, hR, dl⟩ := r.cell j p _ hp hc
        exact ⟨p, vs, rfl, .inl (.inl (r.wd.r _ _ hR)), dl⟩
      · cases hd
  obtain ⟨a, vs, rfl, sq, dl⟩ := fin
  rw [dl.strs] at sq
  exact ⟨a, xs, rfl, sq, h64, fun ys p hy hs hp => q _ cs p _ G R H (h ys hy hs) (Gr.refl ps G R) r hp (DnL.of_strs ys)⟩
theorem al_soS (hg : Gl X "sorted") (hm : X.mg "sorted" = none) (h : AA X C (e :: es) env cs fun as c1 => sSoS as c1 kl) (he : starEach (e :: es) X.env = (false, eval e X.env) :: starEach es X.env := by rfl) (hpl : (backTo pos (starEach es X.env)).any (·.1) = false := by rfl) :
    AL X C (.Call (.Name "sorted" p) (e :: es) [] pos) env cs kl := al_cb (cr_sortedS (X := X)) cl_soS hg hm (by decide +kernel) h (by decide) (by decide) he hpl
/-- o.pop(e), o a cell -/
theorem ax_pop {o : Expr} {apos : Pos} (h : AX X C o env cs fun y c1 => ∃ j ds0, y = .ow j ∧ c1[j]? = some (some ds0) ∧ AX X C e env c1 fun x c2 => ∃ ds d, ∃ i : Nat, x = .im (.int (i : Int)) ∧ c2[j]? = some (some ds) ∧ ds[i]? = some d ∧ i < 1000000 ∧ k (.im d) (c2.set j (some (ds.eraseIdx i))))
    (hbase : attributeBase o "pop" X.env (eval o X.env) = eval o X.env := by rfl)
    (hfew : ((backTo pos (starEach [e] X.env)).all (fun x => !x.1) && (backToKw pos (keywordEach [] X.env)).all (fun x => x.1.isSome) && decide ([e].length + ([] : List Keyword).length + (if ([] : List Keyword).isEmpty then 0 else 1) < 30)) = true := by rfl)
    (hline : (apos.endLine == pos.line) = true := by rfl) (hs : starEach [e] X.env = (false, eval e X.env) :: starEach [] X.env := by rfl) (hplain : (backTo pos (starEach [] X.env)).any (·.1) = false := by rfl) :
    AX X C (.Call (.Attribute o "pop" apos) [e] [] pos) env cs k := by
  refine (pe_bm PySem.F.plainAttrs_list PySem.F.slot_list_pop PySem.F.type_list_pop mt_popAt h (pa_cons (show PE X e (fun σ H Q => ∃ j c1, AX X C e env c1 (fun x c2 => ∃ ds d, ∃ i : Nat, x = .im (.int (i : Int)) ∧ c2[j]? = some (some ds) ∧ ds[i]? = some d ∧ i < 1000000 ∧ k (.im d) (c2.set j (some (ds.eraseIdx i)))) ∧
    tX C X.K env c1 (fun x c2 => ∃ ds d, ∃ i : Nat, x = .im (.int (i : Int)) ∧ c2[j]? = some (some ds) ∧ ds[i]? = some d ∧ i < 1000000 ∧ k (.im d) (c2.set j (some (ds.eraseIdx i)))) σ H Q) from ⟨fun pins s σ H Q I ⟨j, c1, h, t⟩ => h.run pins s σ H Q I t⟩) pa_nil hs) hbase hfew hline hs hplain).imp
    fun σ H Q ⟨ps, G, R, r, px, q⟩ => ⟨ps, G, R, r, px, fun y c1 v G1 R1 H1 hk g1 r1 o1 => ?_⟩
  obtain ⟨j, ds0, ey, hc0, hk2⟩ := hk
  subst ey
  obtain ⟨p0, hp, rfl⟩ := o1
  obtain ⟨vs0, hR0, dl0⟩ := r1.cell j p0 ds0 hp hc0
  refine ⟨.inl ⟨rfl, vs0, .inl (.inl (r1.wd.r _ _ hR0))⟩, j, c1, hk2, ps, G1, R1, r1, px.on g1, fun x c2 u G2 R2 H2 hk3 g2 r2 o2 => ?_⟩
  obtain ⟨ds, d, i, ex, hc, hd, hi, hk4⟩ := hk3
  subst ex
  obtain ⟨vs, hR, dl⟩ := r2.cell j p0 ds hp hc
  obtain ⟨w, hw, ow⟩ := dl.get hd
  have li := (List.getElem?_eq_some_iff.mp hw).1
  have sx : seqIndex? (i : Int) vs.length = some i := by
    have n0 : ¬ ((i : Int) < 0) := by omega
    have l0 : (i : Int) < (vs.length : Int) := by omega
    have g0 : (0 : Int) ≤ (i : Int) := by omega
    simp [seqIndex?, n0, l0, g0, li]
  refine ⟨p0, vs, (i : Int), i, w, rfl, by rw [Dn.int_inv o2], r2.wd.r _ _ hR, by omega, by omega, sx, hw, ?_⟩
  exact q _ _ w G2 _ _ hk4 ((g1.trans g2).trans (Gr.setC hp)) (r2.setC hp hR (dl.erase i)) ow
end
section
variable {X : Cx} {C : Ct} {env : En} {cs : Cells} {P : Pst} {pos pt pt2 px py : Pos} {a b : Expr}
/-- x, y = two fresh lists -/
theorem as_parLL (i j : Nat) {x y : Str} {kt k2 : Nat} (hc : X.calm = true) (hN : X.N.Nodup) (hi : X.N[i]? = some x) (hj : X.N[j]? = some y) (hij : i ≠ j) (hx : X.env.scope.names.lookup x = some .local) (hy : X.env.scope.names.lookup y = some .local) (li : i < env.length) (lj : j < env.length)
    (h : AL X C a env cs fun ds c1 => AL X C b env c1 fun es c2 => P.nx ((env.set i (some (.ow c2.length))).set j (some (.ow (c2.length + 1)))) (c2 ++ [some ds, some es]))
    (ha : starEach [a, b] X.env = (false, eval a X.env) :: starEach [b] X.env := by rfl) (hb : starEach [b] X.env = (false, eval b X.env) :: starEach [] X.env := by rfl)
    (hw : swappedStores [.Tuple [.Name x px, .Name y py] kt pt] (.Tuple [a, b] k2 pt2) X.env = pure (some [x, y]) := by rfl) (hs : swapsWithSole [.Tuple [.Name x px, .Name y py] kt pt] (.Tuple [a, b] k2 pt2) pos.line X.env = pure false := by rfl) :
    AS X C (.Assign [.Tuple [.Name x px, .Name y py] kt pt] (.Tuple [a, b] k2 pt2) pos) env cs P := by
  refine (ps_par hc hN hi hj hij hx hy (pa_cons h (pa_cons (show PE X b (fun σ H Q => ∃ ds c1, AL X C b env c1 (fun es c2 => P.nx ((env.set i (some (.ow c2.length))).set j (some (.ow (c2.length + 1)))) (c2 ++ [some ds, some es])) ∧
    tL C X.K env c1 (fun es c2 => P.nx ((env.set i (some (.ow c2.length))).set j (some (.ow (c2.length + 1)))) (c2 ++ [some ds, some es])) σ H Q) from ⟨fun pins s σ H Q I ⟨ds, c1, h, t⟩ => h.run pins s σ H Q I t⟩) pa_nil hb) ha) hw hs).imp ?_
  intro D σ H ⟨ps, G, R, r, px, q⟩
  refine ⟨ps, G, R, r, px, fun ds c1 p vs G1 R1 H1 hk g1 r1 hp dl => ?_⟩
  obtain ⟨rb, gb⟩ := r1.beside (vs := vs) hp
  have hR1 := r1.wd.freshR hp
  have hn := r1.notin hp
  refine ⟨ds, c1, hk, ps, G1, _, rb, px.on (g1.trans gb), fun es c2 p2 us G2 R2 H2 hk2 g2 r2 hp2 dl2 => ?_⟩
  refine ⟨.ref p, .ref p2, rfl, ?_⟩
  have hR2 : R2 p = some (.lst vs) := g2.oth p _ hn upd_same
  have r3 := r2.adopt hR2 hn (dl.mono g2.ex)
  have r4 := r3.newC hp2 dl2
  have g12 := (g1.trans gb).trans g2
  have gg : Gr ps G R (ps ++ [p]) G2 R2 := by
    refine ⟨g12.ex, g12.oth, fun k q e => ?_, fun q m n => ?_⟩
    · rw [List.getElem?_append_left (List.getElem?_eq_some_iff.mp e).1]
      exact e
    · have eq : q = p := by
        rcases List.mem_append.mp m with h | h
        · exact absurd h n
        · exact List.mem_singleton.mp h
      subst eq
      cases z : R q with
      | none => rfl
      | some o =>
        rw [g1.oth q o n z] at hR1
        cases hR1
  have g4 := gg.trans (Gr.newC r3 hp2 (o := .lst us))
  have e1 : c2 ++ [some ds] ++ [some es] = c2 ++ [some ds, some es] := by simp
  rw [e1] at r4
  have l2 : ps.length = c2.length := r2.len
  refine q.nx _ _ _ _ G2 _ _ hk2 g4 ((r4.setE (a := .ow c2.length) ⟨p, ?_, rfl⟩ li).setE (a := .ow (c2.length + 1)) ⟨p2, ?_, rfl⟩ (by rw [List.length_set]; exact lj))
  · rw [← l2, List.append_assoc, List.getElem?_append_right (Nat.le_refl _), Nat.sub_self]
    rfl
  · rw [← l2, List.append_assoc, List.getElem?_append_right (Nat.le_succ _)]
    simp
end
end Al
/-! instances of own classes: made, read, asked; calls with keywords -/
namespace Al
open PySem PySem.Spec PyProof.Rows L2

/-! ### how what is written comes to the parameters -/
def pick {α : Type} (ix : List Nat) (l : List α) : List α := ix.filterMap fun i => l[i]?
theorem pick_vals {vs : List V} {us : List Value} (r : Vals vs us) : ∀ ix : List Nat, Vals (pick ix vs) (pick ix us)
  | [] => .nil
  | i :: ix => by
    have ih := pick_vals r ix
    have one : ∀ {vs : List V} {us : List Value} {i : Nat}, Vals vs us → (vs[i]? = none ∧ us[i]? = none) ∨ ∃ v u, vs[i]? = some v ∧ us[i]? = some u ∧ RelV v u := by
      intro vs us i r
      induction r generalizing i with
      | nil => exact .inl ⟨by simp, by simp⟩
      | cons h t ih =>
        cases i with
        | zero => exact .inr ⟨_, _, rfl, rfl, h⟩
        | succ i => exact ih
    unfold pick at ih ⊢
    rw [List.filterMap_cons, List.filterMap_cons]
    rcases one (i := i) r with ⟨h1, h2⟩ | ⟨v, u, h1, h2, h3⟩
    · rw [h1, h2]
      exact ih
    · rw [h1, h2]
      exact .cons h3 ih
theorem pick_dn {ca : Str → Addr} {K : PySem.W.Frag} {G : Hp} {vs : List V} {ds : List Da} (r : DnL ca K G vs ds) : ∀ ix : List Nat, DnL ca K G (pick ix vs) (pick ix ds)
  | [] => .nil
  | i :: ix => by
    have ih := pick_dn r ix
    unfold pick at ih ⊢
    rw [List.filterMap_cons, List.filterMap_cons]
    cases q : ds[i]? with
    | none =>
      have q2 : vs[i]? = none := by
        rw [List.getElem?_eq_none_iff] at q ⊢
        rw [r.length]
        exact q
      rw [q2]
      exact ih
    | some d =>
      obtain ⟨v, hv, o⟩ := r.get q
      rw [hv]
      exact .cons o ih
/-- a def called with m values and the keywords ks: the parameters take them by ix -/
def KW (fd : FuncData) (ps : List Str) (m : Nat) (ks : List Str) (ix : List Nat) : Prop := ∀ (s : Shared) (us ws : List Value), us.length = m → ws.length = ks.length → BindsTo s fd ⟨us, ks.zip ws⟩ (ps.zip (pick ix (us ++ ws)))
/-- .. behind the object -/
def KWs (fd : FuncData) (ps : List Str) (m : Nat) (ks : List Str) (ix : List Nat) : Prop := ∀ (s : Shared) (o : Value) (us ws : List Value), us.length = m → ws.length = ks.length → BindsTo s fd ⟨o :: us, ks.zip ws⟩ (ps.zip (o :: pick ix (us ++ ws)))
theorem AVokL.len {ca : Str → Addr} {K : PySem.W.Frag} {G : Hp} {ps : List Addr} : ∀ {ws : List V} {as : List AV}, AVokL ca K G ps ws as → ws.length = as.length
  | [], [], _ => rfl
  | _ :: _, _ :: _, h => congrArg (· + 1) (AVokL.len h.2)
  | [], _ :: _, h => h.elim
  | _ :: _, [], h => h.elim
theorem AVokL.app {ca : Str → Addr} {K : PySem.W.Frag} {G : Hp} {ps : List Addr} : ∀ {ws us : List V} {as bs : List AV}, AVokL ca K G ps ws as → AVokL ca K G ps us bs → AVokL ca K G ps (ws ++ us) (as ++ bs)
  | [], _, [], _, _, h => h
  | _ :: _, _, _ :: _, _, h, g => ⟨h.1, AVokL.app h.2 g⟩
  | [], _, _ :: _, _, h, _ => h.elim
  | _ :: _, _, [], _, h, _ => h.elim
/-- keywords -/
def AK (X : Cx) (C : Ct) (kws : List Keyword) (env : En) (cs : Cells) (k : KA) : Prop := PK X kws (tA C X.K env cs k)
section
variable {X : Cx} {C : Ct} {env : En} {cs : Cells} {ka : KA} {pos kpos : Pos} {e : Expr} {es : List Expr} {kws : List Keyword} {nm : Option Str}
theorem _root_.L2.PK.imp {X : Cx} {es : List Keyword} {t t' : TA} (h : PK X es t) (i : ∀ σ H Q, t' σ H Q → t σ H Q) : PK X es t' := ⟨fun pos pins s σ H Q I q => h.run pos pins s σ H Q I (i σ H Q q)⟩
def tK2 (X : Cx) (C : Ct) (es : List Keyword) (env : En) (k2 : AV → KA) : TA := fun σ H Q => ∃ x c1, AK X C es env c1 (k2 x) ∧ tA C X.K env c1 (k2 x) σ H Q
theorem pk_k2 {k2 : AV → KA} : PK X kws (tK2 X C kws env k2) := ⟨fun pos pins s σ H Q I ⟨x, c1, h, t⟩ => h.run pos pins s σ H Q I t⟩
theorem ak_nil (h : ka [] cs) : AK X C [] env cs ka := pk_nil.imp fun σ H Q ⟨ps, G, R, r, px, q⟩ => q [] cs [] G R H h (Gr.refl ps G R) r trivial
theorem ak_cons (h : AX X C e env cs fun x c1 => AK X C kws env c1 fun xs c2 => ka (x :: xs) c2) : AK X C (⟨nm, e, kpos⟩ :: kws) env cs ka :=
  (pk_cons h (pk_k2 (X := X) (C := C) (env := env) (k2 := fun x xs c2 => ka (x :: xs) c2))).imp fun σ H Q ⟨ps, G, R, r, px, q⟩ => ⟨ps, G, R, r, px, fun x c1 v G1 R1 H1 hk g1 r1 o1 =>
    ⟨x, c1, hk, ps, G1, R1, r1, px.on g1, fun xs c2 ws G2 R2 H2 hk2 g2 r2 o2 => q (x :: xs) c2 (v :: ws) G2 R2 H2 hk2 (g1.trans g2) r2 ⟨o1.mono g2.ex fun _ _ z => z, o2⟩⟩⟩
end
/-! ### what runs -/
section
variable {X : Cx} {CX : CXT} {k m : Nat} {f C : Addr} {fd : FuncData} {ps ks : List Str} {sp : Sp} {E : XK} {pins : List (Addr × Obj)} {σ : L2.St} {H : Hp} {s : Shared} {Q : VK}
theorem run_fnGA {args : Args} {us : List Value} {vs : List V} (F : FnG X.prog X.w X.K X.mg X.base CX k f fd ps sp) (gd : X.A.guards = some []) (hr : Room k X.A) (hb : BindsTo s fd args (ps.zip us))
    (hx : Passes CX X E) (I : Inv X pins σ H s) (r : Vals vs us) (h : sp vs H Q E) : wpAny (model X.prog X.w) X.A (call (.ref f) args.pos args.kw) (EP X pins σ Q) X.xe s := by
  refine wpAny_call (codeAny_mono (F.run X.A X.stack s H args us vs Q E gd hr I.env0 hb r h) ?_)
  intro r s' hq
  rcases r with er | fl
  · exact hx pins σ H s er s' I hq
  · cases fl with
    | ret u => exact I.after hq
    | next => exact (show False from hq).elim
    | brk => exact (show False from hq).elim
    | cont => exact (show False from hq).elim
/-- a new instance, then __init__ -/
theorem run_newG {us ws : List Value} {kw : List (Str × Value)} {vs : List V} (M : Mk X.K C f) (F : FnG X.prog X.w X.K X.mg X.base CX k f fd ps sp) (gd : X.A.guards = some []) (hr : Room (k + 1) X.A)
    (bt : ∀ (s : Shared) (o : Value), X.K.In s.heap → BindsTo s fd ⟨o :: us, kw⟩ (ps.zip (o :: ws))) (hx : Passes CX X E) (I : Inv X pins σ H s) (r : Vals vs ws)
    (h : ∀ x dx, H x = none → H dx = none → dx ≠ x → sp (.ref x :: vs) (upd (upd H dx (.own x)) x (.ins C dx [])) (fun v H2 => v = .non ∧ Q (.ref x) H2) E) :
    wpAny (model X.prog X.w) X.A (call (.ref C) us kw) (EP X pins σ Q) X.xe s := by
  have hq := h (s.heap.objs.size + 1) s.heap.objs.size (I.hok.fresh (Nat.le_succ _)) (I.hok.fresh (Nat.le_refl _)) (Nat.ne_of_lt (Nat.lt_succ_self _))
  have I2 := Inv.made (C := C) I
  have r2 : Vals (V.ref (s.heap.objs.size + 1) :: vs) (Value.ref (s.heap.objs.size + 1) :: ws) := .cons rfl r
  refine wpAny_call (make_map (f := f) I.kIn M.makes M.init (beq_iff_eq.mp M.fn) (codeAny_mono (F.run _ X.stack _ _ ⟨Value.ref (s.heap.objs.size + 1) :: us, kw⟩ (Value.ref (s.heap.objs.size + 1) :: ws) _ _ E (under_guards gd) (hr.make C us kw)
    (I2.env0.make C us kw) (bt _ _ I2.kIn) r2 hq) fun r s' hq' => ?_))
  cases r with
  | error e => exact hx pins σ _ _ e s' I2 hq'
  | ok fl =>
    cases fl with
    | ret u =>
      obtain ⟨v, H', I3, rv, ev, q3⟩ := I2.after hq'
      subst ev
      exact ⟨rv, ⟨V.ref (s.heap.objs.size + 1), H', I3, rfl, q3⟩⟩
    | next => exact False.elim hq'
    | brk => exact False.elim hq'
    | cont => exact False.elim hq'
end
/-! ### promises of __init__ -/
abbrev PhI := List Da → (List Da → Prop) → Prop
/-- __init__ of the class c: the attributes fs are stored, nothing is raised -/
def spIni (ca : Str → Addr) (K : PySem.W.Frag) (c : Str) (n : Nat) (fs : List Str) (φ : PhI) : Sp := fun vs H Q _ => ∃ G R a dx ws ds, vs = .ref a :: ws ∧ ws.length = n ∧ Wd G R H ∧ R a = some (.ins (ca c) dx []) ∧ DnL ca K G ws ds ∧
  φ ds fun es => ∀ us G' R' H', Ex G G' → (∀ q o, q ≠ a → R q = some o → R' q = some o) → R' a = some (.ins (ca c) dx (fs.zip us)) → us.length = fs.length → DnL ca K G' us es → Wd G' R' H' → Q .non H'
theorem zip_fst {α β : Type} : ∀ {xs : List α} {ys : List β}, ys.length = xs.length → (xs.zip ys).map (·.1) = xs
  | [], [], _ => rfl
  | x :: xs, y :: ys, h => by
    rw [List.zip_cons_cons, List.map_cons, zip_fst (Nat.succ.inj h)]
  | [], _ :: _, h => nomatch h
  | _ :: _, [], h => nomatch h
theorem zip_snd {α β : Type} : ∀ {xs : List α} {ys : List β}, ys.length = xs.length → (xs.zip ys).map (·.2) = ys
  | [], [], _ => rfl
  | x :: xs, y :: ys, h => by
    rw [List.zip_cons_cons, List.map_cons, zip_snd (Nat.succ.inj h)]
  | [], _ :: _, h => nomatch h
  | _ :: _, [], h => nomatch h
section
variable {X : Cx} {D : Ct} {env : En} {cs : Cells} {k : KE} {pos p apos : Pos} {e o : Expr} {es : List Expr} {kws : List Keyword} {x c : Str} {f : Str} {fI g : Addr} {j n m : Nat} {fd : FuncData} {ps ks fs : List Str} {ix : List Nat} {φ : PhI} {ψ : Ph}
/-- from the instance made to what follows -/
theorem new_post {ps : List Addr} {σ : L2.St} {G R H : Hp} {Q : VK} {ws : List V} {ds : List Da} (r : Rep D.ca X.K env cs ps σ G R H) (q : Post D.ca X.K env ps σ G R k Q) (dl : DnL D.ca X.K G ws ds) (hn : ds.length = n) (h : φ ds fun es => k (.im (.ins c fs es)) cs)
    (mono : ∀ ds k1 k2, φ ds k1 → (∀ es, k1 es → k2 es) → φ ds k2) : ∀ x dx, H x = none → H dx = none → dx ≠ x →
    spIni D.ca X.K c n fs φ (.ref x :: ws) (upd (upd H dx (.own x)) x (.ins (D.ca c) dx [])) (fun v H2 => v = .non ∧ Q (.ref x) H2) (fun _ _ _ => False) := by
  intro x dx nx nd ne
  have nx2 : (upd H dx (.own x)) x = none := by rw [upd_ne (Ne.symm ne)]; exact nx
  have w1 := (r.wd.newR (o := HO.own x) nd).newR (o := HO.ins (D.ca c) dx []) nx2
  refine ⟨G, _, x, dx, ws, ds, rfl, dl.length.trans hn, w1, upd_same, dl, mono _ _ _ h fun es hk us G' R' H' ex oth hx hl du w => ⟨rfl, ?_⟩⟩
  have w2 := w.freeze hx
  have hG : G' x = none := w.noG hx
  have e2 : Ex G' (upd G' x (.ins (D.ca c) dx (fs.zip us))) := Ex.new hG
  have rx : R x = none := r.wd.freshR nx
  have rd : R dx = none := r.wd.freshR nd
  have w3 : Wd (upd G' x (.ins (D.ca c) dx (fs.zip us))) R H' := w2.less fun a o e => by
    have a1 : a ≠ x := fun z => by rw [z, rx] at e; cases e
    have a2 : a ≠ dx := fun z => by rw [z, rd] at e; cases e
    rw [cut_ne a1]
    refine oth a o a1 ?_
    rw [upd_ne a1, upd_ne a2]
    exact e
  refine q _ cs _ _ R H' hk (Gr.data (ex.trans e2)) (r.grow (ex.trans e2) w3) ?_
  exact Dn.ins upd_same (zip_fst hl) (by rw [zip_snd hl]; exact du.mono e2)
/-- C(e, ..) -/
theorem ax_new (M : Mk X.K (D.ca c) fI) (F : FnG X.prog X.w X.K X.mg X.base CX0 j fI fd ps (spIni D.ca X.K c n fs φ)) (gd : X.A.guards = some []) (hr : Room (j + 1) X.A) (hg : Gl X x) (hm : X.mg x = some (.ref (D.ca c))) (hb : Binds X.K fd ps []) (hp : ps.length = n + 1)
    (h : AA X D (e :: es) env cs fun as c1 => imL as fun ds => ds.length = n ∧ φ ds fun es => k (.im (.ins c fs es)) c1) (hdb : (x == ("__debug__" : Str)) = false := by decide) (he : starEach (e :: es) X.env = (false, eval e X.env) :: starEach es X.env := by rfl)
    (hpl : (backTo pos (starEach es X.env)).any (·.1) = false := by rfl) (mono : ∀ ds k1 k2, φ ds k1 → (∀ es, k1 es → k2 es) → φ ds k2 := by assumption) : AX X D (.Call (.Name x p) (e :: es) [] pos) env cs k := by
  have z : PE X (.Call (.Name x p) (e :: es) [] pos) (fun σ H Q => tA D X.K env cs (fun as c1 => imL as fun ds => ds.length = n ∧ φ ds fun es => k (.im (.ins c fs es)) c1) σ H fun vs H1 => vs.length = n ∧ ∀ x dx, H1 x = none → H1 dx = none → dx ≠ x →
      spIni D.ca X.K c n fs φ (.ref x :: vs) (upd (upd H1 dx (.own x)) x (.ins (D.ca c) dx [])) (fun v H2 => v = .non ∧ Q (.ref x) H2) (fun _ _ _ => False)) := by
    refine ⟨fun pins s σ H Q I h2 => ?_⟩
    refine wpAny_Call_Name_kw (ld_glob I hg hm ?_ hdb)
    refine PySem.W.callWith_K (h₀ := X.base) I.ok.mod.kin M.kp (thn (h.run pos pins s σ H _ I h2) ?_) he hpl
    rintro us s1 ⟨vs, H1, I1, r, hl, q⟩
    refine ⟨I1.kIn, run_newG M F gd hr (fun s o ki => ?_) pass0 I1 r q⟩
    have := hb s (o :: us) ki (by rw [List.append_nil, List.length_cons, ← r.length, hl, hp])
    rw [List.append_nil] at this
    exact this
  refine z.imp fun σ H Q ⟨pz, G, R, r, px, q⟩ => ⟨pz, G, R, r, px, fun as c1 ws G1 R1 H1 h1 g1 r1 o1 => ?_⟩
  obtain ⟨ds, e1, hn, hφ⟩ := imL_of h1
  subst e1
  have dl := AVokL.ims o1
  exact ⟨dl.length.trans hn, new_post r1 (q.on g1) dl hn hφ mono⟩
/-- C(k = e, ..) -/
theorem ax_newK (M : Mk X.K (D.ca c) fI) (F : FnG X.prog X.w X.K X.mg X.base CX0 j fI fd ps (spIni D.ca X.K c n fs φ)) (gd : X.A.guards = some []) (hr : Room (j + 1) X.A) (hg : Gl X x) (hm : X.mg x = some (.ref (D.ca c))) (hb : KWs fd ps 0 ks ix)
    (h : AK X D kws env cs fun as c1 => imL as fun ds => as.length = ks.length ∧ (pick ix ds).length = n ∧ φ (pick ix ds) fun es => k (.im (.ins c fs es)) c1)
    (hall : (backToKw pos (keywordEach kws X.env)).all (·.1.isSome) = true := by rfl) (hks : (backToKw pos (keywordEach kws X.env)).filterMap (·.1) = ks := by rfl) (hdb : (x == ("__debug__" : Str)) = false := by decide)
    (hpl : ((backTo pos (starEach [] X.env)).any (·.1) || (backToKw pos (keywordEach kws X.env)).any (·.1.isNone)) = false := by rfl) (mono : ∀ ds k1 k2, φ ds k1 → (∀ es, k1 es → k2 es) → φ ds k2 := by assumption) : AX X D (.Call (.Name x p) [] kws pos) env cs k := by
  have z : PE X (.Call (.Name x p) [] kws pos) (fun σ H Q => tA D X.K env cs (fun as c1 => imL as fun ds => as.length = ks.length ∧ (pick ix ds).length = n ∧ φ (pick ix ds) fun es => k (.im (.ins c fs es)) c1) σ H fun vs H1 => vs.length = ks.length ∧ ∀ x dx, H1 x = none → H1 dx = none → dx ≠ x →
      spIni D.ca X.K c n fs φ (.ref x :: pick ix vs) (upd (upd H1 dx (.own x)) x (.ins (D.ca c) dx [])) (fun v H2 => v = .non ∧ Q (.ref x) H2) (fun _ _ _ => False)) := by
    refine ⟨fun pins s σ H Q I h2 => ?_⟩
    refine wpAny_Call_Name_kw (ld_glob I hg hm ?_ hdb)
    refine PySem.W.callWith_KW0 (h₀ := X.base) I.ok.mod.kin M.kp hall (thn (h.run pos pins s σ H _ I h2) ?_) hpl
    rintro us s1 ⟨vs, H1, I1, r, hl, q⟩
    refine ⟨I1.kIn, ?_⟩
    rw [hks]
    exact run_newG (us := []) M F gd hr (fun s o ki => hb s o [] us rfl (r.length.symm.trans hl)) pass0 I1 (pick_vals r ix) q
  refine z.imp fun σ H Q ⟨pz, G, R, r, px, q⟩ => ⟨pz, G, R, r, px, fun as c1 ws G1 R1 H1 h1 g1 r1 o1 => ?_⟩
  obtain ⟨ds, e1, hl, hn, hφ⟩ := imL_of h1
  subst e1
  have dl := AVokL.ims o1
  exact ⟨o1.len.trans hl, new_post r1 (q.on g1) (pick_dn dl ix) hn hφ mono⟩
end
end Al
/-! instances: __init__ walked, attributes, properties, methods, len -/
namespace Al
open PySem PySem.Spec PyProof.Rows L2
/-! ### the body of __init__ -/
def tIn (C : Ct) (K : PySem.W.Frag) (env : En) (a : Addr) (c : Str) (ks : List Str) (ds : List Da) (kd : List Str → List Da → Prop) : TS := fun D σ H => ∃ G R dx vs, Rep C.ca K env [] [] σ G R H ∧ PostX C K [] G R ∧ R a = some (.ins (C.ca c) dx (ks.zip vs)) ∧ vs.length = ks.length ∧ DnL C.ca K G vs ds ∧
  ∀ ks' ds' vs' σ' G' R' H', kd ks' ds' → Ex G G' → (∀ q o, q ≠ a → R q = some o → R' q = some o) → R' a = some (.ins (C.ca c) dx (ks'.zip vs')) → vs'.length = ks'.length → DnL C.ca K G' vs' ds' → Wd G' R' H' → D.nx σ' H'
/-- the block runs on with the instance at a, which has the attributes ks so far -/
def AI (X : Cx) (C : Ct) (sts : List Stmt) (env : En) (a : Addr) (c : Str) (ks : List Str) (ds : List Da) (kd : List Str → List Da → Prop) : Prop := PSs X sts (tIn C X.K env a c ks ds kd)
section
variable {X : Cx} {C : Ct} {env : En} {a : Addr} {c : Str} {ks : List Str} {ds : List Da} {kd : List Str → List Da → Prop} {st : Stmt} {rest : List Stmt} {pos p1 p2 : Pos} {e : Expr} {f : Str}
theorem ai_nil (h : kd ks ds) : AI X C [] env a c ks ds kd := pss_nil.imp fun D σ H ⟨G, R, dx, vs, r, px, ha, hl, dl, q⟩ => q ks ds vs σ G R H h (Ex.refl G) (fun _ _ _ z => z) ha hl dl r.wd
def tI2 (X : Cx) (C : Ct) (sts : List Stmt) (env : En) (a : Addr) (c : Str) (kd : List Str → List Da → Prop) : TS := fun D σ H => ∃ ks ds, AI X C sts env a c ks ds kd ∧ tIn C X.K env a c ks ds kd D σ H
theorem ps_i2 {sts : List Stmt} : PSs X sts (tI2 X C sts env a c kd) := ⟨fun pins s σ H D I ⟨ks, ds, h, t⟩ => h.run pins s σ H D I t⟩
theorem nil_of {ps : List Addr} (h : ps.length = ([] : Cells).length) : ps = [] := List.length_eq_zero_iff.mp h
/-- a check, behind which all is as it was -/
theorem ai_stm (h : AS X C st env [] { nx := fun e1 c1 => e1 = env ∧ c1 = [], rt := fun _ _ => False }) (h2 : AI X C rest env a c ks ds kd) : AI X C (st :: rest) env a c ks ds kd :=
  (pss_cons h h2).imp fun D σ H ⟨G, R, dx, vs, r, px, ha, hl, dl, q⟩ => ⟨[], G, R, r, px, ⟨fun env' cs' ps' σ' G' R' H' hk g r' => by
    obtain ⟨rfl, rfl⟩ := hk
    obtain rfl := nil_of r'.len
    exact ⟨G', R', dx, vs, r', px.on g, g.oth _ _ (by simp) ha, hl, dl.mono g.ex, fun ks' ds' vs' σ2 G2 R2 H2 hk e2 o2 ha2 hl2 dl2 w2 => q ks' ds' vs' σ2 G2 R2 H2 hk (g.ex.trans e2) (fun z o zn hz => o2 z o zn (g.oth z o (by simp) hz)) ha2 hl2 dl2 w2⟩,
    fun _ _ _ _ _ _ _ _ _ hk => hk.elim, fun _ _ _ _ _ _ _ hk => hk.elim, fun _ _ _ _ _ _ _ hk => hk.elim⟩⟩
theorem putF_new {v : V} : ∀ {ks : List Str} {vs : List V}, vs.length = ks.length → f ∉ ks → putF f v (ks.zip vs) = (ks ++ [f]).zip (vs ++ [v])
  | [], [], _, _ => rfl
  | k :: ks, u :: vs, hl, hn => by
    have ne : k ≠ f := fun z => hn (by rw [z]; exact List.mem_cons_self ..)
    show putF f v ((k, u) :: ks.zip vs) = (k, u) :: (ks ++ [f]).zip (vs ++ [v])
    rw [putF, if_neg ne, putF_new (Nat.succ.inj hl) fun m => hn (List.mem_cons_of_mem _ m)]
  | [], _ :: _, hl, _ => nomatch hl
  | _ :: _, [], hl, _ => nomatch hl
/-- self.f = e -/
theorem ai_set (hN : X.N[0]? = some ("self" : Str)) (hv : Vis X.env.scope "self") (h0 : env[0]? = some (some (.im (.raw a)))) (hc : Cls X.K (C.ca c)) (hn : NoAttr X.K (C.ca c) f) (hf : f ∉ ks) (hk9 : ks.length < 1000) (hkx : ∀ c ks ds env cs, ¬ C.kx c ks ds env cs)
    (h : AX X C e env [] fun v c1 => c1 = [] ∧ ∃ d, v = .im d ∧ AI X C rest env a c (ks ++ [f]) (ds ++ [d]) kd) (hs : swapsWith e (some (.Attribute (.Name "self" p1) f p2)) pos.line X.env = pure false := by rfl) :
    AI X C (.Assign [.Attribute (.Name "self" p1) f p2] e pos :: rest) env a c ks ds kd :=
  (pss_cons (ps_fld (pe_var hN hv (by decide) (by decide)) h hs) (ps_i2 (X := X) (C := C) (sts := rest) (env := env) (a := a) (c := c) (kd := kd))).imp fun D σ H ⟨G, R, dx, vs, r, px, ha, hl, dl, q⟩ => by
    refine ⟨[], G, R, r, px, fun v c1 w G1 R1 H1 hk g1 r1 o1 => ?_⟩
    obtain ⟨rfl, d, rfl, hai⟩ := hk
    obtain ⟨w0, s0, ow⟩ := r1.sv 0 _ h0
    have ew : w0 = .ref a := by cases ow; rfl
    subst ew
    have ha1 : R1 a = some (.ins (C.ca c) dx (ks.zip vs)) := g1.oth _ _ (by simp) ha
    refine ⟨.ref a, s0, a, C.ca c, dx, _, rfl, r1.wd.r _ _ ha1, hc, hn, ?_, ?_⟩
    · rw [List.length_zip, hl, Nat.min_self]
      exact hk9
    rw [putF_new hl hf]
    refine ⟨ks ++ [f], ds ++ [d], hai, G1, upd R1 a (.ins (C.ca c) dx ((ks ++ [f]).zip (vs ++ [w]))), dx, vs ++ [w], ?_, ?_, upd_same, by simp [hl], (dl.mono g1.ex).append (.cons o1 .nil), ?_⟩
    · exact r1.reR (r1.wd.setR ha1) (by simp)
    · intro cc ks2 ds2 env2 cs2 ps2 dd σ2 G2 R2 H2 hx g2 r2 e2
      exact (hkx _ _ _ _ _ hx).elim
    · intro ks' ds' vs' σ2 G2 R2 H2 hk e2 o2 ha2 hl2 dl2 w2
      refine q ks' ds' vs' σ2 G2 R2 H2 hk (g1.ex.trans e2) (fun z o zn hz => o2 z o zn ?_) ha2 hl2 dl2 w2
      rw [upd_ne zn]
      exact g1.oth z o (by simp) hz
end
section
variable {ca : Str → Addr} {P : Program} {w : World} {K : PySem.W.Frag} {mg : Str → Option Value} {base : Heap}
theorem fnIni {nm ql : Str} {st : Stmt} {f : Addr} {fd : FuncData} {N ps fs : List Str} {k n : Nat} {c : Str} {φ : PhI} (F : Fun K nm ql st f fd) (S : FnScope N ps (defScope st)) (hn : ps.length = n + 1)
    (go : ∀ (cdv : Value) (A : Around) (outer : List PySem.Env) (s : Shared) (H : Hp) (E : XK) (a : Addr) (ds : List Da) (kd : List Da → Prop), A.guards = some [] → Room k (A.deeper (envOfC ql (defScope st) s.heap.objs.size f cdv)) → ds.length = n → φ ds kd →
      AI (cxOf CX0 P w K mg base N ql (defScope st) f cdv A outer s H E).nox ⟨ca, fun _ _ _ _ => True, fun _ _ _ _ _ => False⟩ (defBody st) (env0 N (.im (.raw a) :: ds.map .im)) a c [] [] (fun ks es => ks = fs ∧ kd es))
    (mono : ∀ ds k1 k2, φ ds k1 → (∀ es, k1 es → k2 es) → φ ds k2) : FnG P w K mg base CX0 (k + 1) f fd ps (spIni ca K c n fs φ) := by
  obtain ⟨oc, od, kV, doc, pm, an, cdv, ct, osl, rfl, lk, hcd⟩ := F.ex
  refine fn_ofG lk hcd S (fun vs H Q E ⟨_, _, _, _, ws, _, h, h2, _⟩ => by rw [h, List.length_cons, h2, hn]) fun A outer s H vs Q E gd hr ⟨G, R, a, dx, ws, ds, ev, hl, wd, hR, dl, hφ⟩ => ?_
  subst ev
  have hb := go cdv A outer s H E a ds _ gd hr (dl.length.symm.trans hl) hφ
  refine ⟨_, PSs.nox hb, ?_⟩
  have rep : Rep ca K (env0 N ((.raw a :: ds).map .im)) [] [] (start N (.ref a :: ws)) G R H := rep0 S hn wd (.cons (.raw a) dl) (by rw [List.length_cons, hl])
  refine ⟨G, R, dx, [], rep, fun c ks ds env cs ps' dd σ G' R' H' h => h.elim, hR, rfl, .nil, ?_⟩
  rintro ks' ds' vs' σ' G' R' H' ⟨rfl, hk⟩ ex oth ha hl' dl' w'
  exact hk vs' G' R' H' ex oth ha hl' dl' w'
end
/-! ### attributes -/
theorem Dn.ins_inv {ca : Str → Addr} {K : PySem.W.Frag} {G : Hp} {v : V} {c : Str} {ks : List Str} {ds : List Da} (h : Dn ca K G v (.ins c ks ds)) : ∃ a dx fs, v = .ref a ∧ G a = some (.ins (ca c) dx fs) ∧ fs.map (·.1) = ks ∧ DnL ca K G (fs.map (·.2)) ds := by
  cases h with
  | ins a b d => exact ⟨_, _, _, rfl, a, b, d⟩
theorem look_dn {ca : Str → Addr} {K : PySem.W.Frag} {G : Hp} {f : Str} {d : Da} : ∀ {fs : List (Str × V)} {ds : List Da}, DnL ca K G (fs.map (·.2)) ds → ((fs.map (·.1)).zip ds).lookup f = some d → ∃ v, fs.lookup f = some v ∧ Dn ca K G v d
  | [], _, .nil, h => nomatch h
  | (g, x) :: fs, d0 :: ds, .cons o t, h => by
    have h' : List.lookup f ((g, d0) :: (fs.map (·.1)).zip ds) = some d := h
    rw [List.lookup_cons] at h'
    rw [List.lookup_cons]
    cases q : f == g with
    | true =>
      rw [q] at h'
      have e := Option.some.inj h'
      subst e
      exact ⟨x, rfl, o⟩
    | false =>
      rw [q] at h'
      exact look_dn t h'
theorem look_no {α : Type} {f : Str} : ∀ {fs : List (Str × α)}, f ∉ fs.map (·.1) → fs.lookup f = none
  | [], _ => rfl
  | (g, x) :: fs, h => by
    rw [List.lookup_cons]
    have ne : (f == g) = false := beq_eq_false_iff_ne.mpr fun z => h (by rw [z]; exact List.mem_cons_self ..)
    rw [ne]
    exact look_no fun m => h (List.mem_cons_of_mem _ m)
section
variable {X : Cx} {D : Ct} {env : En} {cs : Cells} {k : KE} {pos p apos : Pos} {e o : Expr} {es : List Expr} {kws : List Keyword} {x c : Str} {f m : Str} {g pa : Addr} {j n nm : Nat} {fd : FuncData} {ps ks : List Str} {ix : List Nat} {ψ : Ph} {CX : CXT} {sp : Sp} {E : XK} {ta : TE} {t : TA}
/-- e.f of an instance -/
theorem ax_fld (h : AX X D e env cs fun v c1 => ∃ c ks ds d, v = .im (.ins c ks ds) ∧ Cls X.K (D.ca c) ∧ NoAttr X.K (D.ca c) f ∧ (ks.zip ds).lookup f = some d ∧ k (.im d) c1) (hb : attributeBase e f X.env (eval e X.env) = eval e X.env := by rfl) : AX X D (.Attribute e f pos) env cs k :=
  (pe_fld h hb).imp fun σ H Q ⟨ps, G, R, r, px, q⟩ => ⟨ps, G, R, r, px, fun v c1 w G1 R1 H1 ⟨c, ks, ds, d, ev, hc, hn, hl, hk⟩ g1 r1 o1 => by
    subst ev
    obtain ⟨a, dx, fs, rfl, ha, rfl, dl⟩ := Dn.ins_inv o1
    obtain ⟨u, hu, ou⟩ := look_dn dl hl
    exact ⟨a, D.ca c, dx, fs, u, rfl, r1.wd.g _ _ ha, hc, hn, hu, q _ c1 u G1 R1 H1 hk g1 r1 ou⟩⟩
theorem in1_guards {A : Around} (gd : A.guards = some []) : A.in1.guards = some [] := by first | exact gd | simpa [Around.in1] using gd
/-- e.f, a property -/
theorem pe_propG (he : PE X e ta) (hc : Cls X.K (D.ca c)) (hp : PropOf X.K (D.ca c) f pa g) (F : FnG X.prog X.w X.K X.mg X.base CX j g fd ["self"] sp) (gd : X.A.guards = some []) (hr : Room (j + 1) X.A) (hb : Binds X.K fd ["self"] []) (hx : Passes CX X.nox E)
    (hab : attributeBase e f X.env (eval e X.env) = eval e X.env) : PE X (.Attribute e f pos) (fun σ H Q => ta σ H fun x H1 => ∃ a dx fs, x = .ref a ∧ H1 a = some (.ins (D.ca c) dx fs) ∧ sp [.ref a] H1 Q E) := by
  refine ⟨fun pins s σ H Q I h => ?_⟩
  refine attr_of hab (thn (he.run pins s σ H _ I h) fun u s1 ⟨x, H1, I1, rx, a, dx, fs, ex, ea, q⟩ => ?_)
  subst ex
  obtain rfl : u = Value.ref a := rx
  obtain ⟨mA, O, _, _, _, _⟩ := ins_get I1.hok ea
  obtain ⟨od, J, _⟩ := O.look
  obtain ⟨rest, hrec⟩ := hp.rec_
  have I2 := I1.tok (s1.toks + 1)
  have hcl : (PySem.W.clsIn X.K (D.ca c)).isSome = true := by
    obtain ⟨cd, hcd, _⟩ := PySem.W.any_some hc.hd
    rw [hcd]
    rfl
  refine PySem.W.get_bind I1.kIn J (PySem.W.plainGet_of (hc.get f)).1 (PySem.W.findObj_data hcl hp.at_ hp.get hp.tak) (PySem.W.plainGet_of (hc.get f)).2 (wpAny_call (PySem.W.prop_get (s := { s1 with toks := s1.toks + 1 }) I1.kIn hrec ?_))
  have bt := hb { s1 with toks := s1.toks + 1 } [.ref a] I2.kIn rfl
  refine codeAny_mono (F.run X.A.in1 X.stack { s1 with toks := s1.toks + 1 } H1 ⟨[.ref a], []⟩ [.ref a] [.ref a] Q E (in1_guards gd) hr.in1 I2.env0.in1 bt (.cons rfl .nil) q) fun r s' hq => ?_
  cases r with
  | error er => exact False.elim (hx pins σ H1 { s1 with toks := s1.toks + 1 } er s' (I2.wish _) hq)
  | ok fl =>
    cases fl with
    | ret u =>
      obtain ⟨v, H', I3, rv, q3⟩ := I2.after hq
      show wpAny _ _ (handedOut u) _ _ _
      rw [PySem.W.handedOut_of (handed_of rv)]
      exact wpAny_pure ⟨v, H', I3, rv, q3⟩
    | next => exact False.elim hq
    | brk => exact False.elim hq
    | cont => exact False.elim hq
theorem ax_prop (hc : Cls X.K (D.ca c)) (hp : PropOf X.K (D.ca c) f pa g) (F : FnG X.prog X.w X.K X.mg X.base CX0 j g fd ["self"] (spP D.ca X.K 1 ψ)) (gd : X.A.guards = some []) (hr : Room (j + 1) X.A) (hb : Binds X.K fd ["self"] [])
    (h : AX X D e env cs fun v c1 => ∃ ks ds, v = .im (.ins c ks ds) ∧ ψ [.ins c ks ds] (fun d => k (.im d) c1) fun _ _ _ => False) (hab : attributeBase e f X.env (eval e X.env) = eval e X.env := by rfl)
    (mono : ∀ ds k1 k2 x1 x2, ψ ds k1 x1 → (∀ d, k1 d → k2 d) → (∀ c ks es, x1 c ks es → x2 c ks es) → ψ ds k2 x2 := by assumption) : AX X D (.Attribute e f pos) env cs k :=
  (pe_propG h hc hp F gd hr hb pass0 hab).imp fun σ H Q ⟨pz, G, R, r, px, q⟩ => ⟨pz, G, R, r, px, fun v c1 w G1 R1 H1 ⟨ks, ds, ev, hψ⟩ g1 r1 o1 => by
    subst ev
    have o1' := o1
    obtain ⟨a, dx, fs, rfl, ha, rfl, dl⟩ := Dn.ins_inv o1
    refine ⟨a, dx, fs, rfl, r1.wd.g _ _ ha, G1, R1, _, rfl, r1.wd, .cons o1' .nil, mono _ _ _ _ _ hψ (fun d hd v G2 H2 ex w o => ?_) fun c ks es hf => hf.elim⟩
    exact q _ c1 v G2 R1 H2 hd (g1.trans (Gr.data ex)) (r1.grow ex w) o⟩
/-- o.m(e, ..) -/
theorem ax_meth {pl : Sem Bool} (hc : Cls X.K (D.ca c)) (hm : Meth X.K (D.ca c) m g) (F : FnG X.prog X.w X.K X.mg X.base CX0 j g fd ps (spP D.ca X.K (n + 1) ψ)) (gd : X.A.guards = some []) (hr : Room j X.A) (hb : Binds X.K fd ps [])
    (h : AX X D o env cs fun v c1 => ∃ ks ds, v = .im (.ins c ks ds) ∧ m ∉ ks ∧ AA X D (e :: es) env c1 fun as c2 => imL as fun ws => ws.length = n ∧ ψ (.ins c ks ds :: ws) (fun d => k (.im d) c2) fun _ _ _ => False)
    (hst : starEach (e :: es) X.env = (false, eval e X.env) :: starEach es X.env := by rfl) (hpl : (backTo pos (starEach es X.env)).any (·.1) = false := by rfl)
    (ht : eval (.Call (.Attribute o m apos) (e :: es) [] pos) X.env = (do
      let ov ← eval o X.env
      standAt apos.atName
      let (f, first) ← holding [ov] (getMethod ov m pl)
      callWith pos f first (backTo pos (starEach (e :: es) X.env)) (backToKw pos (keywordEach [] X.env))) := by rfl)
    (mono : ∀ ds k1 k2 x1 x2, ψ ds k1 x1 → (∀ d, k1 d → k2 d) → (∀ c ks es, x1 c ks es → x2 c ks es) → ψ ds k2 x2 := by assumption) : AX X D (.Call (.Attribute o m apos) (e :: es) [] pos) env cs k := by
  refine ⟨fun pins s σ H Q I ⟨pz, G, R, r, px, q⟩ => ?_⟩
  refine PySem.W.methodCall_KW (pl := pl) (thn (h.run pins s σ H _ I ⟨pz, G, R, r, px, fun v c1 w G1 R1 H1 hk g1 r1 o1 => (⟨v, c1, G1, R1, hk, g1, r1, o1⟩ : ∃ v c1 G1 R1, (∃ ks ds, v = AV.im (.ins c ks ds) ∧ m ∉ ks ∧ AA X D (e :: es) env c1 fun as c2 => imL as fun ws => ws.length = n ∧ ψ (.ins c ks ds :: ws) (fun d => k (.im d) c2) fun _ _ _ => False) ∧ Gr pz G R pz G1 R1 ∧ Rep D.ca X.K env c1 pz σ G1 R1 H1 ∧ AVok D.ca X.K G1 pz w v)⟩) ?_) ht
  rintro u s1 ⟨w, H1, I1, rx, v, c1, G1, R1, ⟨ks, ds, rfl, hnm, haa⟩, g1, r1, o1⟩
  have o1' := o1
  obtain ⟨a, dx, fs, rfl, ha, rfl, dl⟩ := Dn.ins_inv o1
  obtain rfl : u = Value.ref a := rx
  refine getmeth_ok I1 (r1.wd.g _ _ ha) hc hm (look_no hnm) ?_
  refine PySem.W.callWith_K (first := [.ref a]) (h₀ := X.base) I1.ok.mod.kin hm.kp (thn (haa.run pos pins s1 σ H1 _ I1 ⟨pz, G1, R1, r1, px.on g1, fun as c2 ws G2 R2 H2 hk g2 r2 o2 => (⟨as, c2, G2, R2, hk, g2, r2, o2⟩ : ∃ as c2 G2 R2, (imL as fun ws => ws.length = n ∧ ψ (.ins c (fs.map (·.1)) ds :: ws) (fun d => k (.im d) c2) fun _ _ _ => False) ∧ Gr pz G1 R1 pz G2 R2 ∧ Rep D.ca X.K env c2 pz σ G2 R2 H2 ∧ AVokL D.ca X.K G2 pz ws as)⟩) ?_) hst hpl
  rintro us s2 ⟨ws, H2, I2, rv, as, c2, G2, R2, hk, g2, r2, o2⟩
  obtain ⟨es', rfl, hn, hψ⟩ := imL_of hk
  have dl2 := AVokL.ims o2
  have want : spP D.ca X.K (n + 1) ψ (.ref a :: ws) H2 Q (fun _ _ _ => False) := ⟨G2, R2, _, by rw [List.length_cons, dl2.length, hn], r2.wd, .cons (Dn.mono g2.ex o1') dl2, mono _ _ _ _ _ hψ (fun d hd v G3 H3 ex w o => q _ c2 v G3 R2 H3 hd ((g1.trans g2).trans (Gr.data ex)) (r2.grow ex w) o) fun c ks es hf => hf.elim⟩
  have r3 : Vals (V.ref a :: ws) (Value.ref a :: us) := .cons rfl rv
  have bt := hb s2 (Value.ref a :: us) I2.kIn (by rw [List.append_nil, ← r3.length]; exact F.len _ _ _ _ want)
  rw [List.append_nil] at bt
  exact ⟨I2.kIn, run_fnGA (args := ⟨Value.ref a :: us, []⟩) F gd hr bt pass0 I2 r3 want⟩
end
end Al
/-! {elt for .. in .. for .. in ..} -/
namespace Al
open PySem PySem.Spec PyProof.Rows L2
/-- a kind of sets: what is tracked of one, the empty one, what an element makes of it -/
structure SKind (P : Program) (w : World) {S : Type} (O : Addr → S → HO) (z : S) (nxt : S → V → S) (okE : S → V → Prop) : Prop where
  new : ∀ (h : Heap) (H : Hp), ObjOk P w H (h.push { cls := .type "set", dict := none, data := .set #[] 0 (.fresh 0 0 (!w.params.followText "set-order")) }) h.objs.size (O h.objs.size z)
  add : ∀ (Y : Cx), Y.prog = P → Y.w = w → ∀ (pins : List (Addr × Obj)) (ρ : L2.St) (H : Hp) (s : Shared) (D : Addr) (st : S) (y : V) (u : Value) (Q E : Value → Shared → Prop), Inv Y pins ρ H s → H D = some (O D st) → okE st y → RelV y u →
    (∀ s', Inv Y pins ρ (upd H D (O D (nxt st y))) s' → Q .none s') → wpAny (model Y.prog Y.w) Y.A (call (.builtin "set.add") [.ref D, u]) Q E s
theorem sTurn2_out (el t0 i0 t1 i1 : Expr) (q0 q1 : List Expr) (sc : Scope) (ps0 : Pos) (it ac : Value) (ev : Env) :
    compTurn (.SetComp el [⟨t0, i0, q0, 0⟩, ⟨t1, i1, q1, 0⟩] sc ps0) 0 it ac ev = (do
      standAt i0.pos
      match ← pyNext it with
      | none => pure (.done .next)
      | some vv =>
        letOwnedTupleGo t0 it vv
        assign t0 ev vv
        let mut ok := true
        for c in q0 do
          if ok then ok ← isTrue c ev (eval c ev)
        if ok then
          let x ← eval i1 ev
          standAt i1.pos
          let x ← foldedSetIterable i1 ev x
          let _ ← runOwn (.compStart (.SetComp el [⟨t0, i0, q0, 0⟩, ⟨t1, i1, q1, 0⟩] sc ps0) 1 (← holding [x] (pyIter x)) ac ev) ev
        again (.compLoop (.SetComp el [⟨t0, i0, q0, 0⟩, ⟨t1, i1, q1, 0⟩] sc ps0) 0 it ac ev)) := by rfl
theorem sTurn2_in (el t0 i0 t1 i1 : Expr) (q0 q1 : List Expr) (sc : Scope) (ps0 : Pos) (it ac : Value) (ev : Env) :
    compTurn (.SetComp el [⟨t0, i0, q0, 0⟩, ⟨t1, i1, q1, 0⟩] sc ps0) 1 it ac ev = (do
      standAt i1.pos
      match ← pyNext it with
      | none => pure (.done .next)
      | some vv =>
        letOwnedTupleGo t1 it vv
        assign t1 ev vv
        let mut ok := true
        for c in q1 do
          if ok then ok ← isTrue c ev (eval c ev)
        if ok then
          (do let vv ← eval el ev; standAt el.pos; let _ ← call (.builtin "set.add") [ac, vv])
        again (.compLoop (.SetComp el [⟨t0, i0, q0, 0⟩, ⟨t1, i1, q1, 0⟩] sc ps0) 1 it ac ev)) := by rfl

section
variable {pg0 : Program} {w : World} {A : Around} {R : Result → Shared → Prop} {s : Shared} {el t0 i0 t1 i1 : Expr} {q0 q1 : List Expr} {sc : Scope} {ps0 : Pos} {it ac : Value} {ev : Env}
/-- the lp of the first clause -/
theorem sLoop2_out (hfs : ∀ x, foldedSetIterable i1 ev x = pure x) (I : Nat → Shared → Prop)
    (step0 : ∀ n s, I n s → wpAny (model pg0 w) A (pyNext it) (fun r r₁ => match r with
      | none => R (.ok .next) r₁
      | some vv => wpAny (model pg0 w) A (letOwnedTupleGo t0 it vv) (fun _ s₁' => wpAny (model pg0 w) A (assign t0 ev vv) (fun _ r₂ =>
          wpAny (model pg0 w) A (forIn q0 true fun c r => if r = true then do let ok ← isTrue c ev (eval c ev); pure (ForInStep.yield ok) else pure (ForInStep.yield r)) (fun ok r₃ =>
            if ok = true then wpAny (model pg0 w) A (eval i1 ev) (fun x r₄ => wpAny (model pg0 w) A (pyIter x) (fun it1 r₅ =>
              codeAny (model pg0 w) A (.compStart (.SetComp el [⟨t0, i0, q0, 0⟩, ⟨t1, i1, q1, 0⟩] sc ps0) 1 it1 ac ev) (fun r s' => match r with
                | .ok _ => ∃ m, m < n ∧ I m s'
                | .error _ => False) r₅) (notedBy (model pg0 w) A ev fun er s' => R (.error er) s') r₄) (notedBy (model pg0 w) A ev fun er s' => R (.error er) s') r₃
            else ∃ m, m < n ∧ I m r₃) (notedBy (model pg0 w) A ev fun er s' => R (.error er) s') r₂) (notedBy (model pg0 w) A ev fun er s' => R (.error er) s') s₁') (notedBy (model pg0 w) A ev fun er s' => R (.error er) s') r₁) (notedBy (model pg0 w) A ev fun er s' => R (.error er) s') s)
    (n : Nat) (h : I n s) :
    codeAny (model pg0 w) A (.compLoop (.SetComp el [⟨t0, i0, q0, 0⟩, ⟨t1, i1, q1, 0⟩] sc ps0) 0 it ac ev) R s := by
  refine codeAny_loop rfl I (fun n s hI => ?_) n h
  show wpAny _ A ((compTurn (.SetComp el [⟨t0, i0, q0, 0⟩, ⟨t1, i1, q1, 0⟩] sc ps0) 0 it ac ev).onRaise (fun x => do noteFrame x ev; theTreesLotGoes x)) _ _ s
  refine wpAny_noted ?_
  rw [sTurn2_out]
  refine wpAny_bind (wpAny_standAt (wpAny_bind (wpAny_mono (step0 n s hI) (fun r r₁ k₁ => ?_) fun _ _ h' => h')))
  cases r with
  | none => exact wpAny_pure k₁
  | some vv =>
    refine wpAny_bind (wpAny_mono k₁ (fun _ s₁' h₁' => ?_) fun _ _ h' => h')
    refine wpAny_bind (wpAny_mono h₁' (fun _ r₂ k₂ => wpAny_bind (wpAny_mono k₂ (fun ok r₃ k₃ => ?_) fun _ _ h' => h')) fun _ _ h' => h')
    cases ok with
    | false => exact wpAny_pure ⟨rfl, k₃⟩
    | true =>
      refine wpAny_bind (wpAny_mono k₃ (fun x r₄ k₄ => ?_) fun _ _ h' => h')
      refine wpAny_bind (wpAny_standAt (wpAny_bind (wpAny_of_eq (hfs x) (wpAny_bind (wpAny_holding (wpAny_mono k₄ (fun it1 r₅ k₅ => ?_) fun _ _ h' => h'))))))
      refine wpAny_bind (wpAny_runOwn ?_)
      rw [Around.mark_none]
      refine codeAny_mono k₅ fun r s' hr => ?_
      cases r with
      | ok f =>
        first
          | exact wpAny_pure ⟨rfl, hr⟩
          | exact wpAny_bind (wpAny_pure (wpAny_pure ⟨rfl, hr⟩))
      | error er => exact hr.elim
/-- the lp of the second -/
theorem sLoop2_in (I : Nat → Shared → Prop)
    (step0 : ∀ n s, I n s → wpAny (model pg0 w) A (pyNext it) (fun r r₁ => match r with
      | none => R (.ok .next) r₁
      | some vv => wpAny (model pg0 w) A (letOwnedTupleGo t1 it vv) (fun _ s₁' => wpAny (model pg0 w) A (assign t1 ev vv) (fun _ r₂ =>
          wpAny (model pg0 w) A (forIn q1 true fun c r => if r = true then do let ok ← isTrue c ev (eval c ev); pure (ForInStep.yield ok) else pure (ForInStep.yield r)) (fun ok r₃ =>
            if ok = true then wpAny (model pg0 w) A (eval el ev) (fun x r₄ =>
              wpAny (model pg0 w) A (call (.builtin "set.add") [ac, x]) (fun _ r₅ => ∃ m, m < n ∧ I m r₅) (notedBy (model pg0 w) A ev fun er s' => R (.error er) s') r₄) (notedBy (model pg0 w) A ev fun er s' => R (.error er) s') r₃
            else ∃ m, m < n ∧ I m r₃) (notedBy (model pg0 w) A ev fun er s' => R (.error er) s') r₂) (notedBy (model pg0 w) A ev fun er s' => R (.error er) s') s₁') (notedBy (model pg0 w) A ev fun er s' => R (.error er) s') r₁) (notedBy (model pg0 w) A ev fun er s' => R (.error er) s') s)
    (n : Nat) (h : I n s) :
    codeAny (model pg0 w) A (.compLoop (.SetComp el [⟨t0, i0, q0, 0⟩, ⟨t1, i1, q1, 0⟩] sc ps0) 1 it ac ev) R s := by
  refine codeAny_loop rfl I (fun n s hI => ?_) n h
  show wpAny _ A ((compTurn (.SetComp el [⟨t0, i0, q0, 0⟩, ⟨t1, i1, q1, 0⟩] sc ps0) 1 it ac ev).onRaise (fun x => do noteFrame x ev; theTreesLotGoes x)) _ _ s
  refine wpAny_noted ?_
  rw [sTurn2_in]
  refine wpAny_bind (wpAny_standAt (wpAny_bind (wpAny_mono (step0 n s hI) (fun r r₁ k₁ => ?_) fun _ _ h' => h')))
  cases r with
  | none => exact wpAny_pure k₁
  | some vv =>
    refine wpAny_bind (wpAny_mono k₁ (fun _ s₁' h₁' => ?_) fun _ _ h' => h')
    refine wpAny_bind (wpAny_mono h₁' (fun _ r₂ k₂ => wpAny_bind (wpAny_mono k₂ (fun ok r₃ k₃ => ?_) fun _ _ h' => h')) fun _ _ h' => h')
    cases ok with
    | false => exact wpAny_pure ⟨rfl, k₃⟩
    | true =>
      exact wpAny_bind (wpAny_bind (wpAny_mono k₃ (fun x r₄ k₄ => wpAny_bind (wpAny_standAt (wpAny_bind (wpAny_mono k₄ (fun _ r₅ k₅ => wpAny_pure (wpAny_pure ⟨rfl, k₅⟩)) fun _ _ h' => h')))) fun _ _ h' => h'))
/-- the second clause's start -/
theorem sStart1_ok (h0 : codeAny (model pg0 w) A (.compLoop (.SetComp el [⟨t0, i0, q0, 0⟩, ⟨t1, i1, q1, 0⟩] sc ps0) 1 it ac ev) R s)
    (h : wpAny (model pg0 w) A (pyIter it) (fun it' s' => codeAny (model pg0 w) A (.compLoop (.SetComp el [⟨t0, i0, q0, 0⟩, ⟨t1, i1, q1, 0⟩] sc ps0) 1 it' ac ev) R s')
      (notedBy (model pg0 w) A ev fun x s' => R (.error x) s') s) :
    codeAny (model pg0 w) A (.compStart (.SetComp el [⟨t0, i0, q0, 0⟩, ⟨t1, i1, q1, 0⟩] sc ps0) 1 it ac ev) R s := by
  refine codeAny_of_tree ?_
  show wpAny _ _ ((compStart (.SetComp el [⟨t0, i0, q0, 0⟩, ⟨t1, i1, q1, 0⟩] sc ps0) 1 it ac ev).onRaise (fun x => do noteFrame x ev; standAt theWindowsPlace)) _ _ s
  refine wpAny_notedAt ?_
  unfold compStart
  show wpAny _ _ (ask >>= _) _ _ s
  refine wpAny_bind (wpAny_askSetting (wpAny_ite ?_))
  split
  · first
      | exact wpAny_bind (wpAny_pure (wpAny_pure (And.intro rfl h0)))
      | exact wpAny_pure (And.intro rfl h0)
  · first
      | exact wpAny_bind (wpAny_rule (wpAny_bind (wpAny_standAt (wpAny_bind (wpAny_mono h (fun it' s' h' => wpAny_pure (And.intro rfl h')) fun _ _ x => x)))))
      | (refine wpAny_bind (wpAny_rule ?_); show wpAny _ _ (standAt i1.pos >>= _) _ _ s; exact wpAny_bind (wpAny_standAt (wpAny_bind (wpAny_mono h (fun it' s' h' => wpAny_pure (And.intro rfl h')) fun _ _ x => x))))
end

theorem swipe_out {σ : L2.St} {i : Nat} : ∀ {vs : List Nat}, i ∉ vs → (wipe σ vs)[i]? = σ[i]?
  | [], _ => rfl
  | vv :: vs, h => by
    have h1 : vv ≠ i := fun er => h (by rw [er]; exact List.mem_cons_self)
    have h2 : i ∉ vs := fun m => h (List.mem_cons_of_mem _ m)
    unfold wipe
    rw [List.getElem?_set_ne h1]
    exact swipe_out h2
section
variable {X : Cx}
/-- [el for ta in src if .. for ta1 in src1 if ..]: behind the first clause's store and tests the second source's ow lp, from which Nx is reached. vs: the block's names; vs1: those of the second target -/
def tSc2 (wo : TI) (g : TG) (tt : TT) (wo1 : TI) (g1 : TG) (tt1 : TT) (te : TE) (vs vs1 : List Nat) {S : Type} (O : Addr → S → HO) (z : S) (nxt : S → V → S) (okE : S → V → Prop) : TE := fun σ H Q => wo σ H fun J H1 => ∀ D, H1 D = none → ∃ W : Nat → Nat → Hp → Prop, (∃ m, W 0 m (upd H1 D (O D z))) ∧ ∀ i m H, W i m H →
  (J.stop i H ∧ Q (.ref D) H) ∨ (J.go i H ∧ ∃ Nx : Hp → Prop, (∀ H', Nx H' → ∃ m', m' < m ∧ W (i + 1) m' H') ∧ ∀ x H', J.yld i H x H' → g x (wipe σ vs) H' fun σ2 F2 => wipe σ2 vs = wipe σ vs ∧ tt σ2 F2 fun b F3 =>
    if b = true then wo1 σ2 F3 fun J1 H4 => ∃ W1 : Nat → Nat → Hp → Prop, (∃ m, W1 0 m H4) ∧ ∀ j k H, W1 j k H →
      (J1.stop j H ∧ Nx H) ∨ (J1.go j H ∧ ∃ Nx1 : Hp → Prop, (∀ H', Nx1 H' → ∃ k', k' < k ∧ W1 (j + 1) k' H') ∧ ∀ x H', J1.yld j H x H' → g1 x (wipe σ2 vs1) H' fun σ3 F5 => wipe σ3 vs1 = wipe σ2 vs1 ∧ tt1 σ3 F5 fun b H6 =>
        if b = true then te σ3 H6 fun y F7 => ∃ st, F7 D = some (O D st) ∧ okE st y ∧ Nx1 (upd F7 D (O D (nxt st y))) else Nx1 H6)
    else Nx F3)
theorem sc2_core {S : Type} {O : Addr → S → HO} {z : S} {nxt : S → V → S} {okE : S → V → Prop} (SK : SKind X.prog X.w O z nxt okE) {pn : List (Addr × Obj)} {s : Shared} {σ : L2.St} {H : Hp} {Q : VK} {el ta src ta1 src1 : Expr} {qs q1 : List Expr} {sc : Scope} {ow : List (Str × Nat)} {vs1 : List Nat} {ps0 pos' : Pos} {wo wo1 : TI} {g g1 : TG} {tt tt1 : TT} {te : TE} {use : Option (Value → Sem Unit)} {Qf : Value → Shared → Prop}
    (hcm : X.calm = true) (hN : X.N.Nodup) (I : Inv X pn σ H s) (hi : PI X ta src wo) (ok : BlkOk X.N X.env.scope sc ow) (hv : ∀ i ∈ vs1, i ∈ ow.map (·.2))
    (hg : ∀ (s : Shared) (H : Hp) (C : Addr) (cl : List (Str × Addr)) (fp : List Addr), PG (X.blk s H sc (compEnvC sc cl C X.env) fp) ta g) (ht : ∀ (s : Shared) (H : Hp) (C : Addr) (cl : List (Str × Addr)) (fp : List Addr), PTs (X.blk s H sc (compEnvC sc cl C X.env) fp) qs tt)
    (he : ∀ (s : Shared) (H : Hp) (C : Addr) (cl : List (Str × Addr)) (fp : List Addr), PE (X.blk s H sc (compEnvC sc cl C X.env) fp) el te) (hfs : ∀ x, foldedSetIterable src X.env x = pure x)
    (hi1 : ∀ (s : Shared) (H : Hp) (C : Addr) (cl : List (Str × Addr)) (fp : List Addr), PI (X.blk s H sc (compEnvC sc cl C X.env) fp) ta1 src1 wo1)
    (hg1 : ∀ (s : Shared) (H : Hp) (C : Addr) (cl : List (Str × Addr)) (fp : List Addr), PG (X.blk s H sc (compEnvC sc cl C X.env) fp) ta1 g1)
    (ht1 : ∀ (s : Shared) (H : Hp) (C : Addr) (cl : List (Str × Addr)) (fp : List Addr), PTs (X.blk s H sc (compEnvC sc cl C X.env) fp) q1 tt1)
    (hfs1 : ∀ ev x, foldedSetIterable src1 ev x = pure x)
    (h : tSc2 wo g tt wo1 g1 tt1 te (ow.map (·.2)) vs1 O z nxt okE σ H Q)
    (hRR : ∀ D C s' m H', Inv X pn σ H' s' → Q (.ref D) H' → s'.heap.Ns C m → FpOk X pn H' C → compPost (model X.prog X.w) X.A X.xe use Qf (.ref D) C (.ok .next) s') :
    wpAny (model X.prog X.w) X.A (comprehension (.SetComp el [⟨ta, src, qs, 0⟩, ⟨ta1, src1, q1, 0⟩] sc ps0) sc X.env pos' (newSet (.type "set")) false (eval src X.env) use) Qf X.xe s := by
  have hfree : ∀ y ∈ sc.names, y.2 = .free → ∃ c, X.env.cells.lookup y.1 = some c := fun y hy er => by
    rcases ok.free y hy er with k | k
    · exact I.ok.has _ (.inl k)
    · exact I.ok.has _ (.inr k)
  refine wpAny_comprehension_free (use := use) rfl hfs (closure_ok hfree) ok.kind (fun y hy er => by rw [ok.uniq y hy, er])
    (thn (hi.run pn s σ H _ I h) fun xv s1 hx => thn hx fun itv z2 h2 => ?_)
  obtain ⟨it, fp, tn, J, F2, er, J2, T, sy2, f2, q⟩ := h2
  subst er
  refine PpSet.newSet_ok (newEnv_comp ?_)
  generalize hD : z2.heap.objs.size = D
  have hDn : F2 D = none := J2.hok.fresh (Nat.le_of_eq hD)
  obtain ⟨W, ⟨m0, w0⟩, step0⟩ := q D hDn
  -- the new list
  generalize hs3 : ({ z2 with heap := z2.heap.push { cls := .type "set", dict := none, data := .set #[] 0 (.fresh 0 0 (!X.w.params.followText "set-order")) } } : Shared) = z3
  have J3 : Inv X pn σ (upd F2 D (O D z)) z3 := by
    rw [← hs3]
    refine J2.laid (t' := z2.toks) (fun b o er => Heap.get?_push_of_some _ er) (Nat.le_of_eq hD) ?_
    rw [← hD]
    exact SK.new _ _
  have h3 : z3.heap = z2.heap.push { cls := .type "set", dict := none, data := .set #[] 0 (.fresh 0 0 (!X.w.params.followText "set-order")) } := by rw [← hs3]
  have sz : ∀ b ∈ fp, b < z2.heap.objs.size := fun b hb => by
    obtain ⟨o, er, _⟩ := T.obj _ _ sy2 b hb
    exact Heap.lt_size er
  have f3 : ∀ b ∈ fp, FpOk X pn (upd F2 D (O D z)) b ∧ b < z3.heap.objs.size := fun b hb => by
    have hlt := sz b hb
    refine ⟨⟨?_, (f2 b hb).2⟩, by rw [h3, Heap.size_push]; exact Nat.lt_succ_of_lt hlt⟩
    rw [upd_ne (by rw [← hD]; exact Nat.ne_of_lt hlt)]
    exact (f2 b hb).1
  have sy3 : tn 0 z3.heap := T.keep _ _ _ sy2 fun b _ o er => by rw [h3]; exact Heap.get?_push_of_some _ er
  have J4 := block_start J3 ok hN f3
  have pg := hg z3 (upd F2 D (O D z)) z3.heap.objs.size (cellsFrom (z3.heap.objs.size + 1) sc.names (cloFrom X.env.cells sc.names [])) fp
  have pt := ht z3 (upd F2 D (O D z)) z3.heap.objs.size (cellsFrom (z3.heap.objs.size + 1) sc.names (cloFrom X.env.cells sc.names [])) fp
  have pe := he z3 (upd F2 D (O D z)) z3.heap.objs.size (cellsFrom (z3.heap.objs.size + 1) sc.names (cloFrom X.env.cells sc.names [])) fp
  have pi1 := hi1 z3 (upd F2 D (O D z)) z3.heap.objs.size (cellsFrom (z3.heap.objs.size + 1) sc.names (cloFrom X.env.cells sc.names [])) fp
  have pg1 := hg1 z3 (upd F2 D (O D z)) z3.heap.objs.size (cellsFrom (z3.heap.objs.size + 1) sc.names (cloFrom X.env.cells sc.names [])) fp
  have pt1 := ht1 z3 (upd F2 D (O D z)) z3.heap.objs.size (cellsFrom (z3.heap.objs.size + 1) sc.names (cloFrom X.env.cells sc.names [])) fp
  show codeAny _ _ (.compStart (.SetComp el [⟨ta, src, qs, 0⟩, ⟨ta1, src1, q1, 0⟩] sc ps0) 0 (.ref it) (.ref D) (compEnvC sc (cellsFrom (z3.heap.objs.size + 1) sc.names (cloFrom X.env.cells sc.names [])) z3.heap.objs.size X.env)) (compPost (model X.prog X.w) X.A X.xe use Qf (.ref D) z3.heap.objs.size) { z3 with heap := pushCells (z3.heap.push { cls := .type "dict", data := .dict #[] }) sc.names }
  have nfp : ∀ b ∈ fp, (upd F2 D (O D z)) b = none := fun b hb => (f3 b hb).1.1
  generalize hce : compEnvC sc (cellsFrom (z3.heap.objs.size + 1) sc.names (cloFrom X.env.cells sc.names [])) z3.heap.objs.size X.env = ce at J4 pg pt pe pi1 pg1 pt1 ⊢
  have cL : ce.locals = z3.heap.objs.size := by subst hce; rfl
  generalize hH3 : upd F2 D (O D z) = F3 at J3 J4 pg pt pe pi1 pg1 pt1 w0 nfp f3
  generalize hs4 : ({ z3 with heap := pushCells (z3.heap.push { cls := .type "dict", data := .dict #[] }) sc.names } : Shared) = z4 at J4 ⊢
  have sy4 : tn 0 z4.heap := T.keep _ _ _ sy3 fun b _ o er => by rw [← hs4]; exact pushCells_keeps _ _ _ _ (Heap.get?_push_of_some _ er)
  have sta : ∀ {σ' : L2.St} {H' : Hp} {s' : Shared}, Inv (X.blk z3 F3 sc ce fp) [] σ' H' s' → (∀ b ∈ fp, H' b = none) → ∀ b ∈ fp, FpOk (X.blk z3 F3 sc ce fp) [] H' b := fun {σ' H' s'} I' hn b hb =>
    ⟨hn b hb, (I'.ok.exf b hb).1, I'.ok.exfs b hb, .inl hb, fun x c er => (I'.ok.exf b hb).2 x c er, fun p hp => absurd (show p ∈ ([] : List (Addr × Obj)) ++ [] from hp) (by simp)⟩
  have lp : codeAny (model X.prog X.w) X.A (.compLoop (.SetComp el [⟨ta, src, qs, 0⟩, ⟨ta1, src1, q1, 0⟩] sc ps0) 0 (.ref it) (.ref D) ce) (compPost (model X.prog X.w) X.A X.xe use Qf (.ref D) z3.heap.objs.size) z4 := by
    refine sLoop2_out (hfs1 ce) (fun n s' => ∃ i H', Inv (X.blk z3 F3 sc ce fp) [] (wipe σ (ow.map (·.2))) H' s' ∧ tn i s'.heap ∧ (∀ b ∈ fp, H' b = none) ∧ W i n H') ?_ m0 ⟨0, F3, J4, sy4, nfp, w0⟩
    rintro n z5 ⟨i, F5, J5, sy5, n5, w5⟩
    rcases step0 i n F5 w5 with ⟨sp1, qq⟩ | ⟨go0, Nx, hNx, step⟩
    · have td := T.done (X.blk z3 F3 sc ce fp) rfl rfl rfl hcm i [] z5 _ F5 (fun _ _ => False) J5 (sta J5 n5) sy5 sp1
      refine thnF td fun r z6 ⟨hr, J6⟩ => ?_
      subst hr
      -- back in the def's context
      have J7 : Inv X pn σ F5 z6 := J3.call' (ch := fp) J6.os J6.base J6.hok J6.bare fun b hb => ⟨(f3 b hb).1.2.2.2.1, (f3 b hb).1.2.1, (f3 b hb).1.2.2.2.2.1, (f3 b hb).1.2.2.2.2.2⟩
      have nC : F5 z3.heap.objs.size = none := by
        have z : F5 ce.locals = none := J6.free
        rw [cL] at z
        exact z
      obtain ⟨m, hn, _⟩ := J6.loc
      have hn : z6.heap.Ns ce.locals m := hn
      rw [cL] at hn
      exact hRR D z3.heap.objs.size z6 m F5 J7 qq hn (J3.fpOk (Nat.le_refl _) nC)
    · have ti := T.item (X.blk z3 F3 sc ce fp) rfl rfl rfl hcm i [] z5 _ F5 (fun _ _ => False) J5 (sta J5 n5) sy5 go0
      refine thnF ti fun r z6 ⟨u, hr, h6⟩ => ?_
      subst hr
      refine thnF h6 fun _ z7 ⟨x, F7, J7, r7, y7, sy7, n7⟩ => ?_
      have I7' := J7.pinned (sta J7 n7) (T.obj _ _ sy7)
      refine thnF (pg.run _ z7 _ F7 x u _ I7' r7 (step x F7 y7)) fun _ z8 ⟨σ8, F8, J8, hw8, q8⟩ => ?_
      refine thnF (pt.run _ z8 σ8 F8 _ J8 q8) fun b z9 ⟨F9, J9, q9⟩ => ?_
      -- the turn's end, from any slots that know what the block knew at its start
      have ft : ∀ {σ9 : L2.St} {s' : Shared} {H' : Hp}, Inv (X.blk z3 F3 sc ce fp) ([] ++ pinsAt fp z7.heap) σ9 H' s' → (wipe σ (ow.map (·.2))).length = σ9.length → (∀ (j : Nat) vv, (wipe σ (ow.map (·.2)))[j]? = some (some vv) → σ9[j]? = some (some vv)) → Nx H' →
          ∃ m, m < n ∧ ∃ i H', Inv (X.blk z3 F3 sc ce fp) [] (wipe σ (ow.map (·.2))) H' s' ∧ tn i s'.heap ∧ (∀ b ∈ fp, H' b = none) ∧ W i m H' := fun {σ9 s' H'} I' hl hk nx => by
        obtain ⟨m', hm, w'⟩ := hNx H' nx
        have pin' : ∀ b ∈ fp, ∀ o, z7.heap.get? b = some o → s'.heap.get? b = some o ∧ H' b = none := fun b hb o er =>
          let z := I'.pin (b, o) (List.mem_append_right _ (List.mem_append_right _ (mem_pinsAt hb er)))
          ⟨z.1, z.2.1⟩
        refine ⟨m', hm, i + 1, H', (I'.unpinned (pins := [])).weak hl hk, T.keep _ _ _ sy7 fun b hb o er => (pin' b hb o er).1, fun b hb => ?_, w'⟩
        obtain ⟨o, er, _⟩ := T.obj _ _ sy7 b hb
        exact (pin' b hb o er).2
      have hl8 : (wipe σ (ow.map (·.2))).length = σ8.length := by rw [← hw8, wipe_length]
      have hk8 : ∀ (j : Nat) vv, (wipe σ (ow.map (·.2)))[j]? = some (some vv) → σ8[j]? = some (some vv) := fun j vv er => by
        rw [← hw8] at er
        exact (wipe_some er).1
      have hk9 : ∀ (j : Nat) vv, (wipe σ (ow.map (·.2)))[j]? = some (some vv) → (wipe σ8 vs1)[j]? = some (some vv) := fun j vv er => by
        rw [← hw8] at er
        obtain ⟨e1, e2⟩ := wipe_some er
        rw [swipe_out fun z => e2 (hv j z)]
        exact e1
      cases b with
      | false =>
        simp only [Bool.false_eq_true, if_false] at q9 ⊢
        exact ft J9 hl8 hk8 q9
      | true =>
        simp only [if_true] at q9 ⊢
        refine thnF (pi1.run _ z9 σ8 F9 _ J9 q9) fun xv z10 hx => thnF hx fun itv z11 h11 => ?_
        obtain ⟨it1, fp1, tn1, J1, F11, e1, J11, T1, st11, f11, W1, ⟨m1, w1⟩, turn1⟩ := h11
        subst e1
        -- the inner lp
        have stat1 : ∀ {H' : Hp}, (∀ b ∈ fp1, H' b = none) → ∀ b ∈ fp1, FpOk (X.blk z3 F3 sc ce fp) ([] ++ pinsAt fp z7.heap) H' b := fun hn b hb => ⟨hn b hb, (f11 b hb).2⟩
        have loop1 : codeAny (model X.prog X.w) X.A (.compLoop (.SetComp el [⟨ta, src, qs, 0⟩, ⟨ta1, src1, q1, 0⟩] sc ps0) 1 (.ref it1) (.ref D) ce)
            (fun r s' => match r with
              | .ok _ => ∃ m, m < n ∧ ∃ i H', Inv (X.blk z3 F3 sc ce fp) [] (wipe σ (ow.map (·.2))) H' s' ∧ tn i s'.heap ∧ (∀ b ∈ fp, H' b = none) ∧ W i m H'
              | .error _ => False) z11 := by
          refine sLoop2_in (fun k s' => ∃ j H', Inv (X.blk z3 F3 sc ce fp) ([] ++ pinsAt fp z7.heap) (wipe σ8 vs1) H' s' ∧ tn1 j s'.heap ∧ (∀ b ∈ fp1, H' b = none) ∧ W1 j k H') ?_ m1 ⟨0, F11, J11.weak (wipe_length _ _) (fun j vv er => (wipe_some er).1), st11, fun b hb => (f11 b hb).1, w1⟩
          rintro k z12 ⟨j, F12, J12, st12, n12, w12⟩
          rcases turn1 j k F12 w12 with ⟨stop1, nx1⟩ | ⟨go1, Nx1, hNx1, step1⟩
          · refine thnF (T1.done (X.blk z3 F3 sc ce fp) rfl rfl rfl hcm j _ z12 (wipe σ8 vs1) F12 (fun _ _ => False) J12 (stat1 n12) st12 stop1) fun r z13 ⟨hr, J13⟩ => ?_
            subst hr
            exact ft J13 (hl8.trans (wipe_length σ8 vs1).symm) hk9 nx1
          · refine thnF (T1.item (X.blk z3 F3 sc ce fp) rfl rfl rfl hcm j _ z12 (wipe σ8 vs1) F12 (fun _ _ => False) J12 (stat1 n12) st12 go1) fun r z13 ⟨u1, hr, h13⟩ => ?_
            subst hr
            refine thnF h13 fun _ z14 ⟨x1, F14, J14, r14, y14, st14, n14⟩ => ?_
            have I14' := J14.pinned (stat1 n14) (T1.obj _ _ st14)
            refine thnF (pg1.run _ z14 (wipe σ8 vs1) F14 x1 u1 _ I14' r14 (step1 x1 F14 y14)) fun _ z15 ⟨σ15, F15, J15, hw15, q15⟩ => ?_
            refine thnF (pt1.run _ z15 σ15 F15 _ J15 q15) fun b1 z16 ⟨F16, J16, q16⟩ => ?_
            have fin1 : ∀ {s' : Shared} {H' : Hp}, Inv (X.blk z3 F3 sc ce fp) (([] ++ pinsAt fp z7.heap) ++ pinsAt fp1 z14.heap) σ15 H' s' → Nx1 H' → ∃ m, m < k ∧ ∃ j H', Inv (X.blk z3 F3 sc ce fp) ([] ++ pinsAt fp z7.heap) (wipe σ8 vs1) H' s' ∧ tn1 j s'.heap ∧ (∀ b ∈ fp1, H' b = none) ∧ W1 j m H' := fun {s' H'} I' nx => by
              obtain ⟨m', hm, w'⟩ := hNx1 H' nx
              have pin' : ∀ b ∈ fp1, ∀ o, z14.heap.get? b = some o → s'.heap.get? b = some o ∧ H' b = none := fun b hb o er =>
                let z := I'.pin (b, o) (List.mem_append_right _ (List.mem_append_right _ (mem_pinsAt hb er)))
                ⟨z.1, z.2.1⟩
              refine ⟨m', hm, j + 1, H', I'.unpinned.weak (by rw [← hw15, wipe_length]) (fun j vv er => by rw [← hw15] at er; exact (wipe_some er).1), T1.keep _ _ _ st14 fun b hb o er => (pin' b hb o er).1, fun b hb => ?_, w'⟩
              obtain ⟨o, er, _⟩ := T1.obj _ _ st14 b hb
              exact (pin' b hb o er).2
            cases b1 with
            | false =>
              simp only [Bool.false_eq_true, if_false] at q16 ⊢
              exact fin1 J16 q16
            | true =>
              simp only [if_true] at q16 ⊢
              refine thnF (pe.run _ z16 σ15 F16 _ J16 q16) fun z z17 ⟨yv, F17, J17, r17, ac, hD17, hz17, nx⟩ => ?_
              exact SK.add (X.blk z3 F3 sc ce fp) rfl rfl _ _ _ _ _ _ _ _ _ _ J17 hD17 hz17 r17 fun z18 I18 => fin1 I18 nx
        exact sStart1_ok loop1 (T1.self X.A 0 _ _ _ st11 loop1)
  exact PpSet.codeAny_compStart_set lp (T.self X.A 0 _ _ _ sy4 lp)
/-- as a value -/
theorem pe_sc2 {S : Type} {O : Addr → S → HO} {z : S} {nxt : S → V → S} {okE : S → V → Prop} (SK : SKind X.prog X.w O z nxt okE) {el ta src ta1 src1 : Expr} {qs q1 : List Expr} {sc : Scope} {ow : List (Str × Nat)} {vs1 : List Nat} {ps0 : Pos} {wo wo1 : TI} {g g1 : TG} {tt tt1 : TT} {te : TE} (hcm : X.calm = true) (hN : X.N.Nodup) (hi : PI X ta src wo) (ok : BlkOk X.N X.env.scope sc ow) (hv : ∀ i ∈ vs1, i ∈ ow.map (·.2))
    (hg : ∀ (s : Shared) (H : Hp) (C : Addr) (cl : List (Str × Addr)) (fp : List Addr), PG (X.blk s H sc (compEnvC sc cl C X.env) fp) ta g) (ht : ∀ (s : Shared) (H : Hp) (C : Addr) (cl : List (Str × Addr)) (fp : List Addr), PTs (X.blk s H sc (compEnvC sc cl C X.env) fp) qs tt)
    (hi1 : ∀ (s : Shared) (H : Hp) (C : Addr) (cl : List (Str × Addr)) (fp : List Addr), PI (X.blk s H sc (compEnvC sc cl C X.env) fp) ta1 src1 wo1)
    (hg1 : ∀ (s : Shared) (H : Hp) (C : Addr) (cl : List (Str × Addr)) (fp : List Addr), PG (X.blk s H sc (compEnvC sc cl C X.env) fp) ta1 g1) (ht1 : ∀ (s : Shared) (H : Hp) (C : Addr) (cl : List (Str × Addr)) (fp : List Addr), PTs (X.blk s H sc (compEnvC sc cl C X.env) fp) q1 tt1)
    (he : ∀ (s : Shared) (H : Hp) (C : Addr) (cl : List (Str × Addr)) (fp : List Addr), PE (X.blk s H sc (compEnvC sc cl C X.env) fp) el te) (hfs : ∀ x, foldedSetIterable src X.env x = pure x := by intro _; rfl) (hfs1 : ∀ ev x, foldedSetIterable src1 ev x = pure x := by intro _ _; rfl) :
    PE X (.SetComp el [⟨ta, src, qs, 0⟩, ⟨ta1, src1, q1, 0⟩] sc ps0) (tSc2 wo g tt wo1 g1 tt1 te (ow.map (·.2)) vs1 O z nxt okE) := by
  refine ⟨fun pn s σ H Q I h => ?_⟩
  rw [PpSet.eval_SetComp]
  refine sc2_core SK hcm hN I hi ok hv hg ht he hfs hi1 hg1 ht1 hfs1 h fun D C s' m H' I' q hn f => ⟨m, hn, fun h'' sb => ?_⟩
  obtain ⟨f0, f1, f2, f3, f4, f5⟩ := f
  exact ⟨.ref D, H', I'.turned (t' := s'.toks) (fun b o hb er => (sb.2 b hb).trans er) f0 f1 f3 f4 f5, rfl, q⟩
end
end Al
/-! sorted({x for y in ways for x in y}): the ints of some tuples, ascending -/
namespace Al
open PySem PySem.Spec PyProof.Rows L2
/-! ### sets of ints -/
abbrev IS := (Int → Bool) × Nat
def isO (w : World) (a : Addr) (st : IS) : HO := SetO w a st.1 st.2
def isN (st : IS) (v : V) : IS := match v with
  | .int k => (fun j => st.1 j || decide (j = k), if st.1 k = true then st.2 else st.2 + 1)
  | _ => st
def isE (st : IS) (v : V) : Prop := (∃ k, v = .int k) ∧ st.2 + 1 < scanBound
theorem isK {P : Program} {w : World} : SKind P w (isO w) (fun _ => false, 0) isN isE where
  new := fun h H => setO_new (setR_fresh w)
  add := fun Y hp hw pins ρ H s D st y u Q E I hD he ru h => by
    subst hp
    subst hw
    obtain ⟨⟨k, rfl⟩, room⟩ := he
    obtain ⟨tk, rfl⟩ := ru
    have R := setO_get I hD
    refine setR_add R room fun h' sb new => ?_
    have he : ∃ u, h'.get? D = some u := by
      have ⟨o, _, _, _, ho, _⟩ := new
      exact ⟨o, ho⟩
    exact h _ (I.write (e := D) (t' := s.toks + 1) (by rw [hD]; trivial) (.inl rfl) (fun b u hb hu => (sb.2 b hb).trans hu) he (setO_new new))
def memS (l : List Int) : IS := (fun j => decide (j ∈ l), l.length)
theorem memS_nil : memS [] = (fun _ => false, 0) := by
  unfold memS
  refine Prod.ext (funext fun j => ?_) rfl
  simp
theorem memS_add {l : List Int} {k : Int} : isN (memS l) (.int k) = memS (if k ∈ l then l else k :: l) := by
  by_cases c : k ∈ l
  · rw [if_pos c]
    show ((fun j => decide (j ∈ l) || decide (j = k)), if decide (k ∈ l) = true then l.length else l.length + 1) = _
    rw [decide_eq_true c, if_pos rfl]
    unfold memS
    congr 1
    funext j
    by_cases e : j = k
    · subst e
      simp [c]
    · simp [e]
  · rw [if_neg c]
    show ((fun j => decide (j ∈ l) || decide (j = k)), if decide (k ∈ l) = true then l.length else l.length + 1) = _
    rw [decide_eq_false c, if_neg Bool.false_ne_true]
    unfold memS
    congr 1
    funext j
    by_cases e : j = k
    · subst e
      simp
    · simp [e]
def intsD (w : List Int) : Da := .tup (w.map Da.int)
/-- what has been met: the ints of l, each once -/
structure Met (l : List Int) (got : Int → Prop) : Prop where
  nd : l.Nodup
  is : ∀ k, k ∈ l ↔ got k
theorem Met.add {l : List Int} {got : Int → Prop} {k : Int} (m : Met l got) : Met (if k ∈ l then l else k :: l) (fun j => got j ∨ j = k) := by
  by_cases c : k ∈ l
  · rw [if_pos c]
    exact ⟨m.nd, fun j => ⟨fun h => .inl ((m.is j).mp h), fun h => h.elim (m.is j).mpr fun e => by rw [e]; exact c⟩⟩
  · rw [if_neg c]
    exact ⟨List.nodup_cons.mpr ⟨c, m.nd⟩, fun j => by rw [List.mem_cons, m.is j]; exact Or.comm⟩
theorem Met.to {l : List Int} {got got' : Int → Prop} (m : Met l got) (h : ∀ k, got k ↔ got' k) : Met l got' := ⟨m.nd, fun k => (m.is k).trans (h k)⟩
theorem ints_few {N : Nat} : ∀ {l : List Int}, l.Nodup → (∀ k ∈ l, 0 ≤ k ∧ k < (N : Int)) → l.length ≤ N := by
  induction N with
  | zero =>
    intro l nd h
    cases l with
    | nil => exact Nat.le_refl _
    | cons a l =>
      have := h a (List.mem_cons_self ..)
      omega
  | succ N ih =>
    intro l nd h
    have z := ih (l := l.filter fun i => i != (N : Int)) (nd.filter _) fun i hi => by
      have m := List.mem_filter.mp hi
      have l1 := h i m.1
      have l2 : i ≠ (N : Int) := by simpa using m.2
      omega
    by_cases c : (N : Int) ∈ l
    · have e : (l.filter fun i => i != (N : Int)) = l.erase (N : Int) := by rw [nd.erase_eq_filter]
      rw [e, List.length_erase_of_mem c] at z
      omega
    · have e : (l.filter fun i => i != (N : Int)) = l := List.filter_eq_self.mpr fun i hi => by
        have : i ≠ (N : Int) := fun q => c (by rw [← q]; exact hi)
        simpa using this
      rw [e] at z
      omega
section
variable {X : Cx} {C : Ct} {env : En} {cs : Cells} {kl : KL} {pos p p1 p2 p3 p4 ps1 : Pos} {e : Expr} {x y : Str} {sc : Scope}
theorem al_uni (iy ix : Nat) (hc : X.calm = true) (hN : X.N.Nodup) (hg : Gl X "sorted") (hm : X.mg "sorted" = none) (ok : BlkOk X.N X.env.scope sc [(y, iy), (x, ix)]) (hne : iy ≠ ix) (hx : ix < env.length) (hy : iy < env.length)
    (gy : Blk X sc fun Y => PG Y (.Name y p1) (gName iy)) (gx : Blk X sc fun Y => PG Y (.Name x p2) (gName ix)) (vy : Blk X sc fun Y => PE Y (.Name y p3) (tVar iy)) (vx : Blk X sc fun Y => PE Y (.Name x p4) (tVar ix))
    (h : AX X C e env cs fun v c1 => ∃ ws : List (List Int), v = .im (.tup (ws.map intsD)) ∧ (∀ w ∈ ws, ∀ k ∈ w, 0 ≤ k ∧ k < 63) ∧ ∀ ns : List Int, ns.Pairwise (· < ·) → (∀ k, k ∈ ns ↔ ∃ w ∈ ws, k ∈ w) → kl (ns.map Da.int) c1)
    (hf : ∀ x, foldedSetIterable e X.env x = pure x := by intro _; rfl) (he : starEach [.SetComp (.Name x p4) [⟨.Name y p1, e, [], 0⟩, ⟨.Name x p2, .Name y p3, [], 0⟩] sc ps1] X.env = (false, eval (.SetComp (.Name x p4) [⟨.Name y p1, e, [], 0⟩, ⟨.Name x p2, .Name y p3, [], 0⟩] sc ps1) X.env) :: starEach [] X.env := by rfl) :
    AL X C (.Call (.Name "sorted" p) [.SetComp (.Name x p4) [⟨.Name y p1, e, [], 0⟩, ⟨.Name x p2, .Name y p3, [], 0⟩] sc ps1] [] pos) env cs kl := by
  refine (pe_callB (cr_sortedSet hc) hg hm (by decide +kernel) (pa_cons (pe_sc2 (wo1 := iTup X.K (tVar iy)) (ow := [(y, iy), (x, ix)]) (vs1 := [ix]) (isK (P := X.prog) (w := X.w)) hc hN (pi_tup h) ok (by simp) gy (fun _ _ _ _ _ => pts_nil)
    (fun s H Cc cl fp => pi_tup (vy s H Cc cl fp)) gx (fun _ _ _ _ _ => pts_nil) vx hf) pa_nil he) (by decide) (by decide) he rfl).imp fun σ H Q ⟨ps, G, R, r, px, q⟩ => ?_
  refine ⟨ps, G, R, r, px, fun v c1 u G1 R1 H1 ⟨ws, ev, hb, hk⟩ g1 r1 o1 => ?_⟩
  subst ev
  obtain ⟨a, xs, rfl, sq, dl⟩ := Dn.tup_inv o1
  have lx : xs.length = ws.length := by rw [dl.length, List.length_map]
  refine ⟨a, rfl, ⟨xs, r1.wd.sqt sq⟩, fun D hD => ?_⟩
  have hDR := r1.wd.freshR hD
  have hDG := r1.wd.freshG hD
  have wd : ∀ o, Wd G1 R1 (upd H1 D o) := fun o => (r1.wd.newR hD).less fun b z hz => by
    rw [upd_ne (fun e => by rw [e, hDR] at hz; cases hz)]
    exact hz
  have sl : (L2.wipe σ [iy, ix]).length = env.length := by rw [wipe_length, r1.sl]
  have got_lt : ∀ {i : Nat} {l : List Int}, Met l (fun k => ∃ w ∈ ws.take i, k ∈ w) → ∀ k ∈ l, 0 ≤ k ∧ k < 63 := fun m k hk => by
    obtain ⟨w, hw, hkw⟩ := (m.is k).mp hk
    exact hb w (List.mem_of_mem_take hw) k hkw
  refine ⟨fun i m H' => m = ws.length - i ∧ i ≤ ws.length ∧ ∃ l, Met l (fun k => ∃ w ∈ ws.take i, k ∈ w) ∧ H' = upd H1 D (isO X.w D (memS l)), ⟨_, rfl, Nat.zero_le _, [], ⟨List.nodup_nil, fun k => by simp⟩, by rw [memS_nil]⟩, ?_⟩
  rintro i m H' ⟨rfl, hi, l, ml, rfl⟩
  by_cases lt : i < ws.length
  · have lt' : i < xs.length := by omega
    obtain ⟨d, hd, od⟩ := dl.at_ (List.getElem?_eq_getElem lt')
    rw [List.getElem?_map, List.getElem?_eq_getElem lt] at hd
    have ed := Option.some.inj hd
    subst ed
    obtain ⟨b, ys, eb, sb, dl2⟩ := Dn.tup_inv od
    rw [dl2.ints] at sb
    have hwl := hb _ (List.getElem_mem lt)
    refine .inr ⟨⟨xs, xs[i], (wd _).sqt sq, List.getElem?_eq_getElem lt'⟩, fun H2 => ∃ l2, Met l2 (fun k => ∃ w ∈ ws.take (i + 1), k ∈ w) ∧ H2 = upd H1 D (isO X.w D (memS l2)), fun H2 ⟨l2, m2, e2⟩ => ⟨_, by omega, rfl, lt, l2, m2, e2⟩, fun z H2 ⟨e2, hz⟩ => ?_⟩
    subst e2
    have ez : xs[i] = z := by
      have z1 := hz xs ((wd _).sqt sq)
      rw [List.getElem?_eq_getElem lt'] at z1
      exact Option.some.inj z1
    rw [eb] at ez
    subst ez
    refine ⟨wipe_set (by simp), ?_⟩
    unfold tYes
    dsimp only
    rw [if_pos rfl]
    refine ⟨.ref b, List.getElem?_set_self (Nat.lt_of_lt_of_eq hy sl.symm), b, rfl, ⟨_, (wd _).sqt sb⟩, ?_⟩
    refine ⟨fun j m H3 => m = ws[i].length - j ∧ j ≤ ws[i].length ∧ ∃ l2, Met l2 (fun k => (∃ w ∈ ws.take i, k ∈ w) ∨ k ∈ ws[i].take j) ∧ H3 = upd H1 D (isO X.w D (memS l2)), ⟨_, rfl, Nat.zero_le _, l, ml.to fun k => by simp, rfl⟩, ?_⟩
    rintro j m H3 ⟨rfl, hj, l2, m2, rfl⟩
    by_cases lj : j < ws[i].length
    · have lj' : j < (ws[i].map V.int).length := by rw [List.length_map]; exact lj
      refine .inr ⟨⟨_, _, (wd _).sqt sb, List.getElem?_eq_getElem lj'⟩, fun H4 => ∃ l3, Met l3 (fun k => (∃ w ∈ ws.take i, k ∈ w) ∨ k ∈ ws[i].take (j + 1)) ∧ H4 = upd H1 D (isO X.w D (memS l3)), fun H4 ⟨l3, m3, e3⟩ => ⟨_, by omega, rfl, lj, l3, m3, e3⟩, fun z2 H4 ⟨e4, hz2⟩ => ?_⟩
      subst e4
      have ez2 : z2 = .int ws[i][j] := by
        have z1 := hz2 _ ((wd _).sqt sb)
        rw [List.getElem?_map, List.getElem?_eq_getElem lj] at z1
        exact (Option.some.inj z1).symm
      subst ez2
      refine ⟨wipe_set (by simp), ?_⟩
      have few : l2.length ≤ 63 := ints_few (N := 63) m2.nd fun k hk => by
        rcases (m2.is k).mp hk with ⟨w, hw, hkw⟩ | hk2
        · exact hb w (List.mem_of_mem_take hw) k hkw
        · exact hwl k (List.mem_of_mem_take hk2)
      rw [if_pos rfl]
      refine ⟨.int ws[i][j], List.getElem?_set_self (Nat.lt_of_lt_of_eq hx (by rw [wipe_length, List.length_set]; exact sl.symm)), memS l2, upd_same, ⟨⟨_, rfl⟩, by show l2.length + 1 < 4096; omega⟩, if ws[i][j] ∈ l2 then l2 else ws[i][j] :: l2, m2.add.to fun k => ?_, ?_⟩
      · rw [List.take_succ, List.getElem?_eq_getElem lj]
        simp only [Option.toList, List.mem_append, List.mem_singleton]
        exact or_assoc
      · rw [memS_add]
        funext b2
        by_cases hb2 : b2 = D
        · rw [hb2, upd_same, upd_same]
        · rw [upd_ne hb2, upd_ne hb2, upd_ne hb2]
    · have ej : j = ws[i].length := by omega
      subst ej
      refine .inl ⟨⟨_, (wd _).sqt sb, by rw [List.length_map]; exact Nat.le_refl _⟩, l2, m2.to fun k => ?_, rfl⟩
      rw [List.take_length, List.take_succ, List.getElem?_eq_getElem lt]
      simp only [Option.toList, List.mem_append, List.mem_singleton]
      constructor
      · rintro (⟨w, hw, hkw⟩ | hk2)
        · exact ⟨w, .inl hw, hkw⟩
        · exact ⟨_, .inr rfl, hk2⟩
      · rintro ⟨w, hw | rfl, hkw⟩
        · exact .inl ⟨w, hw, hkw⟩
        · exact .inr hkw
  · have ei : i = ws.length := by omega
    subst ei
    rw [List.take_length] at ml
    have few : l.length ≤ 63 := ints_few (N := 63) ml.nd fun k hk => by
      obtain ⟨w, hw, hkw⟩ := (ml.is k).mp hk
      exact hb w hw k hkw
    refine .inl ⟨⟨xs, (wd _).sqt sq, by omega⟩, D, (memS l).1, (memS l).2, rfl, upd_same, by show l.length < 64; omega, fun ns p hs hm _ hp => ?_⟩
    have key : ∀ k, k ∈ ns ↔ ∃ w ∈ ws, k ∈ w := fun k => by
      rw [hm k]
      show decide (k ∈ l) = true ↔ _
      rw [decide_eq_true_eq]
      exact ml.is k
    exact q _ c1 p _ G1 R1 _ (hk ns hs key) g1 (r1.grow (Ex.refl _) (wd _)) hp (DnL.of_ints ns)
end
end Al
/-! i not in ints -/
namespace Al
open PySem PySem.Spec PyProof.Rows L2
section
variable {X : Cx} {C : Ct} {env : En} {cs : Cells} {k : KE} {kt : KT} {pos : Pos} {a b : Expr}
def sNin : Sem2 := fun x y cs k => ∃ (i : Int) (ns : List Int), x = .im (.int i) ∧ (y = .im (.lst (ns.map .int)) ∨ y = .im (.tup (ns.map .int))) ∧ k (.im (.bl (!(ns.any fun j => j == i)))) cs
theorem os_nin {ca : Str → Addr} {K : PySem.W.Frag} : OpS ca K (rIn K true) sNin := by
  rintro env cs ps σ G R H x y v u k Q r ox oy ⟨i, ns, rfl, hy, h⟩ q
  have sq : ∃ p, u = .ref p ∧ (SqL K H p (ns.map V.int) ∨ SqT K H p (ns.map V.int)) := by
    rcases hy with rfl | rfl
    · obtain ⟨p, xs, eu, t, l⟩ := Dn.lst_inv oy
      rw [l.ints] at t
      exact ⟨p, eu, .inl (.inl (.inl (r.wd.g _ _ t)))⟩
    · obtain ⟨p, xs, eu, t, l⟩ := Dn.tup_inv oy
      rw [l.ints] at t
      exact ⟨p, eu, .inr (r.wd.sqt t)⟩
  obtain ⟨p, eu, hq⟩ := sq
  have ei := Dn.int_inv ox
  subst ei
  refine ⟨p, _, eu, hq, rfl, flat_ints ns, ?_⟩
  rw [inV_ints, if_pos rfl]
  exact r.same q h (Dn.bl _)
theorem at_nin (h : AX X C a env cs fun x c1 => AX X C b env c1 fun y c2 => sNin x y c2 fun v c3 => ∃ z, v = .im (.bl z) ∧ kt z c3) (hm : behindInMarks .NotIn b = false := by rfl) : AT X C (.Compare a [.NotIn] [b] pos) env cs kt := at_cmpR op_notIn_seq os_nin hm h
end
end Al
/-! sorted of tuples of ints, of any lengths from one on, any number of them -/
/-- one list ahead of another one -/
def Al.ltL : List Int → List Int → Bool
  | _, [] => false
  | [], _ :: _ => true
  | a :: x, b :: y => if a = b then Al.ltL x y else decide (a < b)
namespace Al
theorem ltL_nil {x : List Int} : ltL x [] = false := by cases x <;> rfl
theorem ltL_cons {a b : Int} {x y : List Int} : ltL (a :: x) (b :: y) = if a = b then ltL x y else decide (a < b) := rfl
theorem ltL_asym : ∀ {x y : List Int}, ltL x y = true → ltL y x = false
  | [], [], h => by cases h
  | [], _ :: _, _ => rfl
  | _ :: _, [], h => by cases h
  | a :: x, b :: y, h => by
    rw [ltL_cons] at h ⊢
    by_cases e : a = b
    · rw [if_pos e] at h
      rw [if_pos e.symm]
      exact ltL_asym h
    · rw [if_neg e, decide_eq_true_eq] at h
      rw [if_neg (Ne.symm e), decide_eq_false_iff_not]
      omega
theorem ltL_tr : ∀ {x y z : List Int}, ltL y x = false → ltL z y = false → ltL z x = false
  | [], _, _, _, _ => ltL_nil
  | a :: x, [], _, h, _ => by cases h
  | a :: x, b :: y, [], _, h => by cases h
  | a :: x, b :: y, c :: z, h1, h2 => by
    rw [ltL_cons] at h1 h2 ⊢
    by_cases e1 : b = a
    · by_cases e2 : c = b
      · rw [if_pos e1] at h1
        rw [if_pos e2] at h2
        rw [if_pos (e2.trans e1)]
        exact ltL_tr h1 h2
      · rw [if_neg e2, decide_eq_false_iff_not] at h2
        have e3 : c ≠ a := fun z => e2 (z.trans e1.symm)
        rw [if_neg e3, decide_eq_false_iff_not]
        omega
    · rw [if_neg e1, decide_eq_false_iff_not] at h1
      by_cases e2 : c = b
      · have e3 : c ≠ a := fun z => e1 (e2.symm.trans z)
        rw [if_neg e3, decide_eq_false_iff_not]
        omega
      · rw [if_neg e2, decide_eq_false_iff_not] at h2
        have e3 : c ≠ a := fun z => by omega
        rw [if_neg e3, decide_eq_false_iff_not]
        omega
/-- neither ahead of the other one: the same -/
theorem ltL_eq : ∀ {x y : List Int}, ltL x y = false → ltL y x = false → x = y
  | [], [], _, _ => rfl
  | [], _ :: _, h, _ => by cases h
  | _ :: _, [], _, h => by cases h
  | a :: x, b :: y, h1, h2 => by
    rw [ltL_cons] at h1 h2
    by_cases e : a = b
    · rw [if_pos e] at h1
      rw [if_pos e.symm] at h2
      rw [e, ltL_eq h1 h2]
    · rw [if_neg e, decide_eq_false_iff_not] at h1
      rw [if_neg (Ne.symm e), decide_eq_false_iff_not] at h2
      omega
end Al
namespace SrtO
open PySem PyProof.Rows Srt
section
variable {prog : Program} {w : World} {A : Around} {E : Value → Shared → Prop} {s : Shared}
def ltT (h : Heap) (v u : Value) : Bool := Al.ltL (TS.intsOf h v) (TS.intsOf h u)
theorem swo_T (h : Heap) : Swo (ltT h) := ⟨fun _ _ => Al.ltL_asym, fun _ _ _ => Al.ltL_tr⟩
theorem lexT {b : Bool} {Q : Bool → Shared → Prop} {xs : List Value} {ns : List Int} (hx : IntsAre xs ns) : ∀ {ys : List Value} {ms : List Int} (i : Nat), IntsAre ys ms → Q (Al.ltL ns ms) s → PySem.W.KatLex prog w A b (decide (ns.length < ms.length)) Q (xs.zip ys) i s := by
  induction hx with
  | nil =>
    intro ys ms i hy h
    cases hy with
    | nil => exact PySem.W.kat_nil h
    | cons m u r => exact PySem.W.kat_nil h
  | @cons n t xs0 ns0 r ih =>
    intro ys ms i hy h
    cases hy with
    | nil => exact PySem.W.kat_nil h
    | @cons m u ys' ms' r' =>
      rw [Al.ltL_cons] at h
      refine PySem.W.kat_cons (SeqAt.EqAt.int_int n t m u prog w _ _ ?_)
      refine PySem.W.kat_go (fun e => ?_) (fun e => ?_)
      · have e' : n = m := by simpa using e
        rw [if_pos e'] at h
        have z := ih (i + 1) r' h
        have el : decide ((n :: ns0).length < (m :: ms').length) = decide (ns0.length < ms'.length) := by
          simp only [List.length_cons, Nat.add_lt_add_iff_right]
        rw [el]
        exact PySem.W.kat_yes z
      · have e' : ¬ n = m := by simpa using e
        rw [if_neg e'] at h
        exact PySem.W.kat_no (TS.oneLt_ints _ h)
theorem cmpT {vs : List Value} {h0 : Heap} (hp : ∀ v ∈ vs, ∃ ns, TS.TupInts s.heap v ns ∧ TS.intsOf h0 v = ns) : Cmp prog w A s (tuples' true) (fun p => p.1 ∈ vs) (lt2 (ltT h0)) := by
  intro p q hm hm'
  obtain ⟨ns, ⟨a, xs, ea, ⟨o, ho, hc, k, hd⟩, hi⟩, e1⟩ := hp _ hm
  obtain ⟨ms, ⟨a', xs', ea', ⟨o', ho', hc', k', hd'⟩, hi'⟩, e2⟩ := hp _ hm'
  show wpAny (model prog w) A (keyLt' (tuples' true) p.1 q.1) (fun r s' => s' = s ∧ r = ltT h0 p.1 q.1) (fun _ _ => False) s
  unfold ltT
  rw [e1, e2, ea, ea']
  refine PySem.W.kat_lt ho hd ho' hd' ?_
  have l1 : xs.size = ns.length := by rw [← Array.length_toList]; exact hi.length
  have l2 : xs'.size = ms.length := by rw [← Array.length_toList]; exact hi'.length
  rw [l1, l2]
  exact lexT hi 0 hi' ⟨rfl, rfl⟩
theorem firstsT {h : Heap} : ∀ {vs : List Value}, (∀ v ∈ vs, ∃ ns, TS.TupInts h v ns ∧ ns ≠ []) → ∃ fs : List Value, PySem.W.KatTups h vs fs ∧ fs.length = vs.length ∧ ∀ f ∈ fs, ∃ x t, f = Value.int x t
  | [], _ => ⟨[], PySem.W.KatTups.nil, rfl, fun _ hm => by simp at hm⟩
  | v :: vs, hp => by
    obtain ⟨fs, h1, h2, h3⟩ := firstsT (vs := vs) fun v' hm => hp v' (List.mem_cons_of_mem _ hm)
    obtain ⟨ns, ⟨a, xs, rfl, ⟨o, ho, hc, k, hd⟩, hi⟩, hne⟩ := hp v (List.mem_cons_self ..)
    have : ∃ x t r, xs.toList = Value.int x t :: r := by
      generalize xs.toList = l at hi
      cases hi with
      | nil => exact absurd rfl hne
      | cons n t r => exact ⟨n, t, _, rfl⟩
    obtain ⟨x, t, r, ex⟩ := this
    have e0 : xs[0]? = some (.int x t) := by rw [← Array.getElem?_toList, ex]; rfl
    refine ⟨.int x t :: fs, PySem.W.KatTups.cons ho hc hd e0 h1, by rw [List.length_cons, List.length_cons, h2], fun f hm => ?_⟩
    rcases List.mem_cons.mp hm with e | m
    · exact ⟨x, t, e⟩
    · exact h3 f m
theorem sortable_T {a : Addr} {vs : List Value} {h0 : Heap} (hn : 0 < vs.length) (hp : ∀ v ∈ vs, ∃ ns, TS.TupInts s.heap v ns ∧ TS.intsOf h0 v = ns ∧ ns ≠ []) (ha : ∀ o, s.heap.get? a = some o → o.cls ≠ .type "tuple") : SortableO prog w A s a vs (ltT h0) := by
  intro h' keep
  have hp' : ∀ v ∈ vs, ∃ ns, TS.TupInts h' v ns ∧ TS.intsOf h0 v = ns ∧ ns ≠ [] := fun v hm => by
    obtain ⟨ns, t, e, ne⟩ := hp v hm
    exact ⟨ns, t.keeps fun b o er c => keep b o (fun z => by subst z; exact ha o er c) er, e, ne⟩
  obtain ⟨fs, h1, h2, h3⟩ := firstsT fun v hm => by
    obtain ⟨ns, t, _, ne⟩ := hp' v hm
    exact ⟨ns, t, ne⟩
  refine ⟨tuples' true, fun Q E hq => ?_, cmpT fun v hm => by
    obtain ⟨ns, t, e, _⟩ := hp' v hm
    exact ⟨ns, t, e⟩⟩
  refine PySem.W.kat_kind (T := .type "int") h1 (by omega) (fun f hm => ?_) (by rfl) ?_
  · obtain ⟨x, t, rfl⟩ := h3 f hm
    exact PySem.W.Looks.now
  · have ne : (Value.type "int" != Value.type "tuple") = true := by first | decide +kernel | rfl | decide
    rw [ne]
    exact hq
end
end SrtO
namespace Al
open PySem PySem.Spec PyProof.Rows L2
/-- sorted(xs), xs a list of tuples of ints, none empty -/
def rSortTL (K : PySem.W.Frag) : List V → Hp → VK → Prop := fun vs H Q => ∃ (a : Addr) (xs : List V), vs = [V.ref a] ∧ SqL K H a xs ∧ (∀ x ∈ xs, ∃ ns, TupI K H x ns ∧ ns ≠ []) ∧
  ∀ (ys : List V) (p : Addr), ys.Perm xs → ys.Pairwise (fun x y => ∀ n m, TupI K H x n → TupI K H y m → ltL m n = false) → H p = none → Q (.ref p) (upd H p (.lst ys))
theorem cr_sortTL {X : Cx} : CallR X (.builtin "sorted") (rSortTL X.K) := by
  intro pins s σ H vs us Q I r h
  obtain ⟨a, xs, rfl, hs, hx, q⟩ := h
  obtain ⟨its, rv, hl, hz⟩ := I.list hs
  rw [Vals.ref1 r]
  obtain ⟨e1, e2⟩ := bkV_refs rv fun x m => by
    obtain ⟨ns, ⟨t, e, _⟩, _⟩ := hx x m
    exact ⟨t, e⟩
  have raw : ∀ v ∈ its, ∃ ns, TS.TupInts s.heap v ns ∧ TS.intsOf s.heap v = ns ∧ ns ≠ [] := fun v hv => by
    obtain ⟨t, rfl⟩ := e2 v hv
    have hm : V.ref t ∈ xs := by
      rw [e1]
      exact List.mem_map.mpr ⟨_, hv, rfl⟩
    obtain ⟨ns, ⟨t', e, ht⟩, hn⟩ := hx _ hm
    cases e
    have z := tupI_raw I ht
    exact ⟨ns, z, z.ints, hn⟩
  refine SrtO.sorted_ord (SrtO.swo_T s.heap) hl.isList (by rw [← rv.length]; exact hz) (fun h2 h₁ d hd kk => ?_) fun out hso hb => ?_
  · refine SrtO.sortable_T (s := { s with heap := h₁ }) (by omega) (fun v hm => ?_) fun o e => ?_
    · obtain ⟨ns, t, er, ne⟩ := raw v hm
      exact ⟨ns, t.keeps fun b o er _ => (kk b o er).2, er, ne⟩
    · have e' : some o = some (seqObj "list" its.toArray 0) := e.symm.trans hd
      cases e'
      intro c
      exact absurd (Value.type.inj c) (by decide)
  · obtain ⟨ep, he'⟩ := PyProof.Rows.sortedAll_at s.heap its out.toArray
    have h3 : ∀ u ∈ out, ∃ a, u = Value.ref a := fun u hu => e2 u (hb.perm.mem_iff.mp hu)
    have hp : (out.map bkV).Perm xs := by
      rw [e1]
      exact hb.perm.map bkV
    have hlen : (out.map bkV).length ≤ sizeLine := by
      rw [hp.length_eq]
      exact hz
    refine ⟨.ref _, upd H (s.heap.objs.size + 1) (.lst (out.map bkV)), I.laid (t' := s.toks) (fun _ _ => PyProof.Rows.sortedAll_old) (Nat.le_succ _) ⟨hlen, out, ep, bkV_vals h3, he'⟩, rfl, q _ _ hp ?_ (I.hok.fresh (Nat.le_succ _))⟩
    rw [List.pairwise_map]
    refine List.Pairwise.imp (fun {u v} huv n m hn hm => ?_) hso
    obtain ⟨t, et, ht⟩ := hn
    obtain ⟨t', et', ht'⟩ := hm
    have i1 : TS.intsOf s.heap u = n := by
      rw [bkV_ref et]
      exact (tupI_raw I ht).ints
    have i2 : TS.intsOf s.heap v = m := by
      rw [bkV_ref et']
      exact (tupI_raw I ht').ints
    rw [← i1, ← i2]
    exact huv
theorem dn_perm {ca : Str → Addr} {K : PySem.W.Frag} {G : Hp} {ys xs : List V} (p : ys.Perm xs) : ∀ {ds : List Da}, DnL ca K G xs ds → ∃ es, es.Perm ds ∧ DnL ca K G ys es := by
  induction p with
  | nil => intro ds h; exact ⟨ds, List.Perm.refl _, h⟩
  | cons x _ ih =>
    intro ds h
    cases h with
    | cons o t =>
      obtain ⟨es, pe, de⟩ := ih t
      exact ⟨_ :: es, pe.cons _, .cons o de⟩
  | swap x y l =>
    intro ds h
    cases h with
    | cons o t =>
      cases t with
      | cons o2 t2 => exact ⟨_, List.Perm.swap _ _ _, .cons o2 (.cons o t2)⟩
  | trans _ _ ih1 ih2 =>
    intro ds h
    obtain ⟨es, pe, de⟩ := ih2 h
    obtain ⟨fs, pf, df⟩ := ih1 de
    exact ⟨fs, pf.trans pe, df⟩
theorem perm_map {α β : Type} {f : α → β} {l m : List β} (p : l.Perm m) : ∀ {xs : List α}, m = xs.map f → ∃ ys : List α, ys.Perm xs ∧ l = ys.map f := by
  induction p with
  | nil => intro xs h; exact ⟨xs, List.Perm.refl _, h⟩
  | cons a _ ih =>
    intro xs h
    cases xs with
    | nil => cases h
    | cons x xs =>
      obtain ⟨h1, h2⟩ := List.cons.inj h
      obtain ⟨ys, py, ey⟩ := ih h2
      exact ⟨x :: ys, py.cons _, by rw [ey, h1]; rfl⟩
  | swap a b l =>
    intro xs h
    match xs, h with
    | [], h => cases h
    | [_], h => cases h
    | x :: y :: xs, h =>
      obtain ⟨h1, h2⟩ := List.cons.inj h
      obtain ⟨h3, h4⟩ := List.cons.inj h2
      exact ⟨y :: x :: xs, List.Perm.swap _ _ _, by rw [h1, h3, h4]; rfl⟩
  | trans _ _ ih1 ih2 =>
    intro xs h
    obtain ⟨ys, py, ey⟩ := ih2 h
    obtain ⟨zs, pz, ez⟩ := ih1 ey
    exact ⟨zs, pz.trans py, ez⟩
theorem pair_dn {ca : Str → Addr} {K : PySem.W.Frag} {G H : Hp} (g : ∀ a o, G a = some o → H a = some o) : ∀ {ys : List V} {ws : List (List Int)}, DnL ca K G ys (ws.map intsD) → ys.Pairwise (fun x y => ∀ n m, TupI K H x n → TupI K H y m → ltL m n = false) → ws.Pairwise fun n m => ltL m n = false
  | [], [], _, _ => .nil
  | y :: ys, w :: ws, .cons o t, h => by
    have h' := List.pairwise_cons.mp h
    have tup : ∀ {v : V} {n : List Int}, Dn ca K G v (intsD n) → TupI K H v n := fun o => by
      obtain ⟨b, zs, eb, sb, dl2⟩ := Dn.tup_inv o
      rw [dl2.ints] at sb
      exact ⟨b, eb, Ex.sqt g sb⟩
    refine List.pairwise_cons.mpr ⟨fun m hm => ?_, pair_dn g t h'.2⟩
    obtain ⟨i, hi⟩ := List.mem_iff_getElem?.mp hm
    obtain ⟨v, hv, ov⟩ := t.get (i := i) (d := intsD m) (by rw [List.getElem?_map, hi]; rfl)
    exact h'.1 v (List.mem_of_getElem? hv) w m (tup o) (tup ov)
/-- sorted of tuples of ints -/
def sSoW : SemL := fun as cs k => ∃ x ws, as = [x] ∧ asD cs x = some (.lst (ws.map intsD)) ∧ (∀ w ∈ ws, w ≠ []) ∧ ∀ ws' : List (List Int), ws'.Perm ws → ws'.Pairwise (fun n m => ltL m n = false) → k (ws'.map intsD) cs
theorem cl_soW {ca : Str → Addr} {K : PySem.W.Frag} : CbL ca K (rSortTL K) sSoW := by
  rintro env cs ps σ G R H as vs k Q r o ⟨x, ws, rfl, hd, hne, h⟩ q
  obtain ⟨w, rfl, o1⟩ := av1 o
  have src : ∃ a vs, w = .ref a ∧ SqL K H a vs ∧ DnL ca K G vs (ws.map intsD) := by
    cases x with
    | im d' =>
      have e' := Option.some.inj hd
      subst e'
      obtain ⟨p, ys, rfl, t, dl⟩ := Dn.lst_inv o1
      exact ⟨p, ys, rfl, .inl (.inl (r.wd.g _ _ t)), dl⟩
    | ow j =>
      obtain ⟨p, hp, rfl⟩ := o1
      unfold asD at hd
      dsimp only at hd
      split at hd
      · rename_i l' hc
        have e' := Option.some.inj hd
        cases e'
        obtain ⟨us, hR, dl⟩ := r.cell j p _ hp hc
        exact ⟨p, us, rfl, .inl (.inl (r.wd.r _ _ hR)), dl⟩
      · cases hd
  obtain ⟨a, us, rfl, sq, dl⟩ := src
  refine ⟨a, us, rfl, sq, fun v hv => ?_, fun ys p hp hs hn => ?_⟩
  · obtain ⟨i, hi⟩ := List.mem_iff_getElem?.mp hv
    obtain ⟨d, hd2, od⟩ := dl.at_ hi
    rw [List.getElem?_map] at hd2
    obtain ⟨n, hn, en⟩ := Option.map_eq_some_iff.mp hd2
    subst en
    obtain ⟨b, zs, eb, sb, dl2⟩ := Dn.tup_inv od
    rw [dl2.ints] at sb
    exact ⟨n, ⟨b, eb, r.wd.sqt sb⟩, hne n (List.mem_of_getElem? hn)⟩
  · obtain ⟨es, pe, de⟩ := dn_perm hp dl
    obtain ⟨ws', pw, ew⟩ := perm_map pe rfl
    subst ew
    exact q _ cs p _ G R H (h ws' pw (pair_dn r.wd.g de hs)) (Gr.refl ps G R) r hn de
section
variable {X : Cx} {C : Ct} {env : En} {cs : Cells} {kl : KL} {pos p : Pos} {e : Expr} {es : List Expr}
theorem al_soW (hg : Gl X "sorted") (hm : X.mg "sorted" = none) (h : AA X C (e :: es) env cs fun as c1 => sSoW as c1 kl) (he : starEach (e :: es) X.env = (false, eval e X.env) :: starEach es X.env := by rfl) (hpl : (backTo pos (starEach es X.env)).any (·.1) = false := by rfl) :
    AL X C (.Call (.Name "sorted" p) (e :: es) [] pos) env cs kl := al_cb (cr_sortTL (X := X)) cl_soW hg hm (by decide +kernel) h (by decide) (by decide) he hpl
end
end Al
/-! instances: len, type(x) is C, calls with keywords -/
namespace Al
open PySem PySem.Spec PyProof.Rows L2
section
variable {X : Cx} {CX : CXT} {C f : Addr} {k : Nat} {fd : FuncData} {sp : Sp} {E : XK}
theorem call_lenO (hs : PySem.W.findIn X.K (.ref C) "__len__" = some (some (.ref f))) (hf : PySem.W.isFn X.K (.ref f) = true) (F : FnG X.prog X.w X.K X.mg X.base CX k f fd ["self"] sp) (gd : X.A.guards = some []) (hr : Room (k + 1) X.A) (hb : Binds X.K fd ["self"] []) (hx : Passes CX X E) :
    CallR X (.builtin "len") (fun xs H Q => ∃ a dx fs, xs = [.ref a] ∧ H a = some (.ins C dx fs) ∧ sp [.ref a] H (fun v H2 => ∃ n : Int, v = .int n ∧ 0 ≤ n ∧ n < 2 ^ 63 ∧ Q (.int n) H2) E) := by
  intro pins s σ H xs us Q I r h
  obtain ⟨a, dx, fs, rfl, ea, want⟩ := h
  rw [Vals.ref1 r]
  obtain ⟨mA, O, _, _, _, _⟩ := ins_get I.hok ea
  obtain ⟨od, J, _⟩ := O.look
  refine Calls.call_function_entry kind_len plain_len entry_len (args_len1 _) ?_
  unfold Builtin.«len»
  refine wpAny_bind (m := oneArg "len" _) (wpAny_pure ?_)
  have bt := hb s [.ref a] I.kIn rfl
  refine wpAny_bind (m := callSpecial? (.ref a) (Str.ofString "__len__")) (PySem.W.special_fn I.kIn J hs (beq_iff_eq.mp hf) ?_)
  refine wpAny_call (codeAny_mono (F.run X.A.in1 X.stack s H ⟨[.ref a], []⟩ [.ref a] [.ref a] _ E (in1_guards gd) hr.in1 I.env0.in1 bt (.cons rfl .nil) want) fun rr s' hq => ?_)
  cases rr with
  | error er => exact hx pins σ H s er s' I hq
  | ok fl =>
    cases fl with
    | ret u =>
      obtain ⟨v, H', I3, rv, n, rfl, n0, n1, q3⟩ := I.after hq
      obtain ⟨tk, rfl⟩ := rv
      refine wpAny_bind (wpAny_holding (wpAny_pure ?_))
      refine wpAny_bind (wpAny_letGo ?_)
      show wpAny _ _ (if n < 0 then _ else _) _ _ _
      rw [if_neg (by omega)]
      show wpAny _ _ (if n ≥ 2 ^ 63 then _ else _) _ _ _
      rw [if_neg (by omega)]
      exact wpAny_bind (wpAny_mkInt (wpAny_pure ⟨_, rfl, ⟨.int n, H', I3.tok _, ⟨_, rfl⟩, q3⟩⟩))
    | next => exact (show False from hq).elim
    | brk => exact (show False from hq).elim
    | cont => exact (show False from hq).elim
end
section
variable {X : Cx} {D : Ct} {env : En} {cs : Cells} {k : KE} {kt : KT} {pos p : Pos} {e a b : Expr} {es : List Expr} {c : Str} {g : Addr} {j : Nat} {fd : FuncData} {ψ : Ph}
/-- len(e) of an instance -/
theorem ax_lenO (hs : PySem.W.findIn X.K (.ref (D.ca c)) "__len__" = some (some (.ref g))) (hf : PySem.W.isFn X.K (.ref g) = true) (F : FnG X.prog X.w X.K X.mg X.base CX0 j g fd ["self"] (spP D.ca X.K 1 ψ)) (gd : X.A.guards = some []) (hr : Room (j + 1) X.A) (hb : Binds X.K fd ["self"] [])
    (hg : Gl X "len") (hm : X.mg "len" = none) (h : AA X D (e :: es) env cs fun as c1 => ∃ ks ds, as = [.im (.ins c ks ds)] ∧ ψ [.ins c ks ds] (fun d => ∃ n : Int, d = .int n ∧ 0 ≤ n ∧ n < 2 ^ 63 ∧ k (.im (.int n)) c1) fun _ _ _ => False)
    (mono : ∀ ds k1 k2 x1 x2, ψ ds k1 x1 → (∀ d, k1 d → k2 d) → (∀ c ks es, x1 c ks es → x2 c ks es) → ψ ds k2 x2 := by assumption)
    (he : starEach (e :: es) X.env = (false, eval e X.env) :: starEach es X.env := by rfl) (hpl : (backTo pos (starEach es X.env)).any (·.1) = false := by rfl) : AX X D (.Call (.Name "len" p) (e :: es) [] pos) env cs k := by
  refine ax_cb (call_lenO hs hf F gd hr hb pass0) (f := fun as c1 k => ∃ ks ds, as = [.im (.ins c ks ds)] ∧ ψ [.ins c ks ds] (fun d => ∃ n : Int, d = .int n ∧ 0 ≤ n ∧ n < 2 ^ 63 ∧ k (.im (.int n)) c1) fun _ _ _ => False) ?_ hg hm PySem.boot_len h (by decide) (by decide) he hpl
  rintro env cs ps σ G R H as ws k Q r o ⟨ks, ds, rfl, hψ⟩ q
  obtain ⟨w, rfl, o1⟩ := av1 o
  have o1' := o1
  obtain ⟨x, dx, fs, rfl, ha, rfl, dl⟩ := Dn.ins_inv o1
  refine ⟨x, dx, fs, rfl, r.wd.g _ _ ha, G, R, _, rfl, r.wd, .cons o1' .nil, mono _ _ _ _ _ hψ (fun d hd v G2 H2 ex w o => ?_) fun c ks es hf => hf.elim⟩
  obtain ⟨n, rfl, n0, n1, hk⟩ := hd
  exact ⟨n, Dn.int_inv o, n0, n1, q _ cs _ G2 R H2 hk (Gr.data ex) (r.grow ex w) (.int n)⟩
/-- type(e) of an instance -/
def sTyO : SemA := fun as cs k => ∃ c ks ds, as = [.im (.ins c ks ds)] ∧ k (.im (.cl c)) cs
theorem cs_tyO {ca : Str → Addr} {K : PySem.W.Frag} : CbS ca K (fun xs H Q => ∃ a C dx fs, xs = [V.ref a] ∧ H a = some (.ins C dx fs) ∧ Q (.ref C) H) sTyO := by
  rintro env cs ps σ G R H as ws k Q r o ⟨c, ks, ds, rfl, hk⟩ q
  obtain ⟨w, rfl, o1⟩ := av1 o
  obtain ⟨x, dx, fs, rfl, ha, _, _⟩ := Dn.ins_inv o1
  exact ⟨x, ca c, dx, fs, rfl, r.wd.g _ _ ha, r.same q hk (.cl c)⟩
theorem ax_typeO (hg : Gl X "type") (hm : X.mg "type" = none) (h : AA X D (e :: es) env cs fun as c1 => sTyO as c1 k) (he : starEach (e :: es) X.env = (false, eval e X.env) :: starEach es X.env := by rfl) (hpl : (backTo pos (starEach es X.env)).any (·.1) = false := by rfl) :
    AX X D (.Call (.Name "type" p) (e :: es) [] pos) env cs k := ax_ct cr_type cs_tyO hg hm (by decide +kernel) h (by decide) (by decide) he hpl
/-- a class is (not) itself -/
def sSame (z : Bool) : Sem2 := fun x y cs k => ∃ c, x = .im (.cl c) ∧ y = .im (.cl c) ∧ k (.im (.bl z)) cs
theorem Dn.cl_inv {ca : Str → Addr} {K : PySem.W.Frag} {G : Hp} {v : V} {c : Str} (h : Dn ca K G v (.cl c)) : v = .ref (ca c) := by cases h; rfl
theorem os_isC {ca : Str → Addr} {K : PySem.W.Frag} : OpS ca K (fun x y H Q => ∃ a b, x = V.ref a ∧ y = V.ref b ∧ (a = b ∨ (PySem.W.makesIn K a = true ∧ PySem.W.makesIn K b = true)) ∧ Q (.bl (decide (a = b))) H) (sSame true) := by
  rintro env cs ps σ G R H x y v u k Q r ox oy ⟨c, rfl, rfl, hk⟩ q
  refine ⟨ca c, ca c, Dn.cl_inv ox, Dn.cl_inv oy, .inl rfl, ?_⟩
  rw [decide_eq_true rfl]
  exact r.same q hk (.bl true)
theorem os_notC {ca : Str → Addr} {K : PySem.W.Frag} : OpS ca K (fun x y H Q => ∃ a b, x = V.ref a ∧ y = V.ref b ∧ (a = b ∨ (PySem.W.makesIn K a = true ∧ PySem.W.makesIn K b = true)) ∧ Q (.bl (!decide (a = b))) H) (sSame false) := by
  rintro env cs ps σ G R H x y v u k Q r ox oy ⟨c, rfl, rfl, hk⟩ q
  refine ⟨ca c, ca c, Dn.cl_inv ox, Dn.cl_inv oy, .inl rfl, ?_⟩
  rw [decide_eq_true rfl]
  exact r.same q hk (.bl false)
theorem ax_isC (h : AX X D a env cs fun x c1 => AX X D b env c1 fun y c2 => sSame true x y c2 k) (hm : behindInMarks .Is b = false := by rfl) : AX X D (.Compare a [.Is] [b] pos) env cs k := ax_cmp (op_is_cls (X := X)) os_isC hm h
theorem at_notC (h : AX X D a env cs fun x c1 => AX X D b env c1 fun y c2 => sSame false x y c2 fun v c3 => ∃ z, v = .im (.bl z) ∧ kt z c3) (hm : behindInMarks .IsNot b = false := by rfl) : AT X D (.Compare a [.IsNot] [b] pos) env cs kt := at_cmpR (op_isnot_cls (X := X)) os_notC hm h
end
/-! ### calls with keywords -/
section
variable {X : Cx} {CX : CXT} {D : Ct} {env : En} {cs : Cells} {kk : KE} {pos p apos : Pos} {e o : Expr} {es : List Expr} {kws : List Keyword} {x c m : Str} {f g : Addr} {k n mm : Nat} {fd : FuncData} {ps ks : List Str} {ix : List Nat} {φ : Ph}
/-- f(k = e, ..) -/
theorem ax_callK0 (F : FnG X.prog X.w X.K X.mg X.base CX0 k f fd ps (spP D.ca X.K n φ)) (gd : X.A.guards = some []) (hr : Room k X.A) (hg : Gl X x) (hm : X.mg x = some (.ref f)) (hk : PySem.W.keepIn X.K (.ref f) = true) (hb : KW fd ps 0 ks ix)
    (h : AK X D kws env cs fun as c1 => imL as fun ds => as.length = ks.length ∧ (pick ix ds).length = n ∧ φ (pick ix ds) (fun d => kk (.im d) c1) fun _ _ _ => False)
    (hall : (backToKw pos (keywordEach kws X.env)).all (·.1.isSome) = true := by rfl) (hks : (backToKw pos (keywordEach kws X.env)).filterMap (·.1) = ks := by rfl) (hdb : (x == ("__debug__" : Str)) = false := by decide)
    (hpl : ((backTo pos (starEach [] X.env)).any (·.1) || (backToKw pos (keywordEach kws X.env)).any (·.1.isNone)) = false := by rfl)
    (mono : ∀ ds k1 k2 x1 x2, φ ds k1 x1 → (∀ d, k1 d → k2 d) → (∀ c ks es, x1 c ks es → x2 c ks es) → φ ds k2 x2 := by assumption) : AX X D (.Call (.Name x p) [] kws pos) env cs kk := by
  have z : PE X (.Call (.Name x p) [] kws pos) (fun σ H Q => tA D X.K env cs (fun as c1 => imL as fun ds => as.length = ks.length ∧ (pick ix ds).length = n ∧ φ (pick ix ds) (fun d => kk (.im d) c1) fun _ _ _ => False) σ H fun vs H1 => vs.length = ks.length ∧ spP D.ca X.K n φ (pick ix vs) H1 Q (fun _ _ _ => False)) := by
    constructor
    intro pins s σ H Q I h2
    refine wpAny_Call_Name_kw (ld_glob I hg hm ?_ hdb)
    refine PySem.W.callWith_KW0 (h₀ := X.base) I.ok.mod.kin hk hall (thn (h.run pos pins s σ H _ I h2) ?_) hpl
    rintro us s1 ⟨vs, H1, I1, r, hl, q⟩
    refine ⟨I1.kIn, ?_⟩
    rw [hks]
    exact run_fnGA (args := ⟨[], ks.zip us⟩) F gd hr (hb s1 [] us rfl (r.length.symm.trans hl)) pass0 I1 (pick_vals r ix) q
  refine z.imp fun σ H Q ⟨pz, G, R, r, px, q⟩ => ⟨pz, G, R, r, px, fun as c1 ws G1 R1 H1 h1 g1 r1 o1 => ?_⟩
  obtain ⟨ds, e1, hl, hn, hφ⟩ := imL_of h1
  subst e1
  have dl := pick_dn (AVokL.ims o1) ix
  exact ⟨o1.len.trans hl, G1, R1, _, dl.length.trans hn, r1.wd, dl, mono _ _ _ _ _ hφ (fun d hd v G2 H2 ex w o => q _ c1 v G2 R1 H2 hd (g1.trans (Gr.data ex)) (r1.grow ex w) o) fun c ks es hf => hf.elim⟩
end
end Al
/-! comprehensions over tuples, sums, x is not None -/
namespace Al
open PySem PySem.Spec PyProof.Rows L2
section
variable {X : Cx} {C : Ct} {env : En} {cs : Cells} {k : KL} {pos : Pos} {e elt : Expr} {ifs : List Expr} {scope : Scope} {own : List (Str × Nat)}
/-- [elt for x in a tuple if ..] -/
theorem al_lcT (i : Nat) {x : Str} {p0 : Pos} (hc : X.calm = true) (hN : X.N.Nodup) (ok : BlkOk X.N X.env.scope scope own) (hi : i ∈ own.map (·.2)) (hl : i < env.length) (hw : ∀ j ∈ own.map (·.2), ∀ a, env[j]? ≠ some (some a))
    (hG : Blk X scope fun Y => PG Y (.Name x p0) (gName i))
    (h : AX X C e env cs fun z c1 => ∃ ds, z = .im (.tup ds) ∧ ∃ I : Ic, I 0 [] c1 ∧ (∀ (t : Nat) d acc c, ds[t]? = some d → I t acc c → AE1 X C scope ifs elt (env.set i (some (.im d))) c acc (I (t + 1))) ∧ ∀ acc c, I ds.length acc c → k acc c)
    (hf : ∀ x, foldedSetIterable e X.env x = pure x := by intro _; rfl) :
    AL X C (.ListComp elt [⟨.Name x p0, e, ifs, 0⟩] scope pos) env cs k := by
  refine (pe_lc (own := own) (g := gName i) (tt := tTs X C scope ifs) (te := tEl X C scope elt) hc hN (pi_tup h) ok hG blk_pts blk_el hf).imp fun σ H Q ⟨ps, G, R, r, px, q⟩ => ?_
  refine ⟨ps, G, R, r, px, fun z c1 v G1 R1 H1 ⟨ds, ez, I, h0, ht, hd⟩ g1 r1 o1 => ?_⟩
  subst ez
  obtain ⟨a, xs, rfl, t1, dl⟩ := Dn.tup_inv o1
  refine ⟨a, rfl, ⟨xs, r1.wd.sqt t1⟩, fun D hD => ?_⟩
  have hR0 := r1.wd.freshR hD
  have hn := r1.notin hD
  refine lc_tup (xs := xs) (fun t H' => Cst X C env ps σ G1 R1 D (I t) H') (comp_start r1 hD h0) ?_ ?_ fun H' hH => comp_end hR0 hn (fun es c2 p vs G2 R2 H2 h2 g2 => q es c2 p vs G2 R2 H2 (hd es c2 (by rw [← dl.length]; exact h2)) (g1.trans g2)) hH
  · rintro t H' _ ⟨c2, acc, vacc, G2, R2, hI, g2, r2, hD2, da⟩
    exact r2.wd.sqt (g2.ex.sqt t1)
  · rintro t y H' hy ⟨c2, acc, vacc, G2, R2, hI, g2, r2, hD2, da⟩
    obtain ⟨d, hd2, od⟩ := dl.at_ hy
    exact ⟨wipe_set hi, comp_turn (px.on g1) hR0 hn r2 g2 hD2 da ((r2.wipe hw).setE (a := .im d) (od.mono g2.ex) hl) (ht t d acc c2 hd2 hI)⟩
end
section
variable {X : Cx} {C : Ct} {env : En} {cs : Cells} {k : KE} {kt : KT} {pos p : Pos} {e a b : Expr} {es : List Expr}
/-- sum of a list of ints -/
def sSum : SemA := fun as cs k => ∃ ns : List Int, as = [.im (.lst (ns.map Da.int))] ∧ k (.im (.int ns.sum)) cs
theorem cs_sum {ca : Str → Addr} {K : PySem.W.Frag} : CbS ca K (rSum K) sSum := by
  intro env cs ps σ G R H as ws k Q r o ⟨ns, e, h⟩ q
  subst e
  obtain ⟨w, rfl, o1⟩ := av1 o
  obtain ⟨p, xs, rfl, t, dl⟩ := Dn.lst_inv o1
  have e2 := dl.ints
  subst e2
  exact ⟨p, ns, rfl, .inl (.inl (r.wd.g _ _ t)), r.same q h (.int _)⟩
theorem ax_sum (hc : X.calm = true) (hg : Gl X "sum") (hm : X.mg "sum" = none) (h : AA X C (e :: es) env cs fun as c1 => sSum as c1 k) (he : starEach (e :: es) X.env = (false, eval e X.env) :: starEach es X.env := by rfl) (hpl : (backTo pos (starEach es X.env)).any (·.1) = false := by rfl) :
    AX X C (.Call (.Name "sum" p) (e :: es) [] pos) env cs k := ax_cb (cr_sum hc) cs_sum hg hm (by decide +kernel) h (by decide) (by decide) he hpl
/-- x is not None, x something -/
def sNoN : Sem2 := fun x y cs k => (∃ z, x = .im (.str z)) ∧ y = .im .non ∧ k (.im (.bl true)) cs
theorem os_noN {ca : Str → Addr} {K : PySem.W.Frag} : OpS ca K (fun x y H Q => y = .non ∧ Q (.bl (!decide (x = .non))) H) sNoN := by
  rintro env cs ps σ G R H x y v u k Q r ox oy ⟨⟨z, rfl⟩, rfl, hk⟩ q
  have e1 := Dn.str_inv ox
  subst e1
  refine ⟨by cases oy; rfl, ?_⟩
  have e2 : (!decide ((V.str z : V) = .non)) = true := by
    rw [decide_eq_false (by intro q; cases q)]
    rfl
  rw [e2]
  exact r.same q hk (.bl true)
theorem ax_noN (h : AX X C a env cs fun x c1 => AX X C b env c1 fun y c2 => sNoN x y c2 k) (hm : behindInMarks .IsNot b = false := by rfl) : AX X C (.Compare a [.IsNot] [b] pos) env cs k := ax_cmp (op_notN (X := X)) os_noN hm h
/-- t[:n] of a tuple -/
def sTkA : Sem2 := fun x y cs k => ∃ (n : Nat) (l : List Da), y = .im (.int (n : Int)) ∧ x = .im (.tup l) ∧ k (.im (.tup (l.take n))) cs
theorem ax_takeA {p2 : Pos} (h : AX X C a env cs fun x c1 => AX X C b env c1 fun y c2 => sTkA x y c2 k) : AX X C (.Subscript a (.Slice none (some b) none p2) pos) env cs k :=
  (pe_slice sl_tupA h po_none (po_some (pe_x2 (X := X) (C := C) (env := env) (k2 := fun x y c2 => sTkA x y c2 k)))).imp fun σ H Q ⟨ps, G, R, r, px, q⟩ => ⟨ps, G, R, r, px, fun x c1 v G1 R1 H1 hk g1 r1 o1 =>
    ⟨x, c1, hk, ps, G1, R1, r1, px.on g1, fun y c2 u G2 R2 H2 hf g2 r2 o2 => by
      obtain ⟨n, l, rfl, rfl, hk2⟩ := hf
      refine ⟨(n : Int), Dn.int_inv o2, ?_⟩
      obtain ⟨p, xs, e1, t1, dl⟩ := Dn.tup_inv (o1.mono g2.ex (fun _ _ z => z))
      refine ⟨p, xs, e1, r2.wd.sqt t1, fun hw => ?_, fun _ z hz => ?_⟩
      · have le : l.length ≤ n := by
          have h2 := hw.2
          rw [HT.sIx_nat, dl.length] at h2
          omega
        rw [List.take_of_length_le le] at hk2
        exact q _ c2 _ G2 R2 H2 hk2 (g1.trans g2) r2 (.tup t1 dl)
      · rw [cut_take]
        exact r2.tup (q.on (g1.trans g2)) hk2 (dl.take n) hz⟩⟩
end
section
variable {X : Cx} {C : Ct} {env : En} {cs : Cells} {P : Pst}
theorem Rep.fgt {ca : Str → Addr} {K : PySem.W.Frag} {ps : List Addr} {σ : L2.St} {G R H : Hp} (r : Rep ca K env cs ps σ G R H) (j : Nat) : Rep ca K (env.set j none) cs ps σ G R H where
  wd := r.wd
  nd := r.nd
  len := r.len
  cell := r.cell
  dead := r.dead
  sv := fun i a e => by
    by_cases z : j = i
    · subst z
      by_cases h : j < env.length
      · rw [List.getElem?_set_self h] at e
        cases e
      · rw [List.getElem?_eq_none (by rw [List.length_set]; omega)] at e
        cases e
    · rw [List.getElem?_set_ne z] at e
      exact r.sv i a e
  sl := by rw [List.length_set, r.sl]
/-- a slot is forgotten -/
theorem ab_fgt (j : Nat) {sts : List Stmt} (h : AB X C sts (env.set j none) cs P) : AB X C sts env cs P :=
  PSs.imp h fun D σ H ⟨ps, G, R, r, px, q⟩ => ⟨ps, G, R, r.fgt j, px, q⟩
end
end Al
/-! enumerate(list); comprehensions over enumerate(tuple); t[n:]; methods by keywords -/
namespace Al
open PySem PySem.Spec PyProof.Rows L2
theorem for_enL {K : PySem.W.Frag} {a : Addr} {xs : List V} {g : TG} {tb : TS} {D : Ends} {σ : L2.St} {H : Hp} (Pv : Nat → L2.St → Hp → Prop) (h0 : Pv 0 σ H) (hl : ∀ i σ H, Pv i σ H → SqL K H a xs)
    (hs : ∀ i x σ H T, xs[i]? = some x → Pv i σ H → H T = none → g (.ref T) σ (upd H T (.tup [.int (i : Nat), x])) fun σ2 H2 => tb { D with nx := Pv (i + 1), ct := Pv (i + 1), bk := D.nx } σ2 H2) (hd : ∀ σ H, Pv xs.length σ H → D.nx σ H) :
    ∃ W : Nat → Nat → L2.St → Hp → Prop, (∃ m, W 0 m σ H) ∧ ∀ i m σ H, W i m σ H →
      ((Ite K a).stop i H ∧ D.nx σ H) ∨ ((Ite K a).go i H ∧ ∃ N : L2.St → Hp → Prop, (∀ σ' H', N σ' H' → ∃ m', m' < m ∧ W (i + 1) m' σ' H') ∧ ∀ x H', (Ite K a).yld i H x H' → g x σ H' fun σ2 H2 => tb { D with nx := N, ct := N, bk := D.nx } σ2 H2) := by
  refine ⟨fun i m σ H => m = xs.length - i ∧ i ≤ xs.length ∧ Pv i σ H, ⟨xs.length, by simp, Nat.zero_le _, h0⟩, ?_⟩
  rintro i m σ H ⟨rfl, hi, pv⟩
  have sq := hl i σ H pv
  by_cases lt : i < xs.length
  · right
    have hx : xs[i]? = some xs[i] := List.getElem?_eq_getElem lt
    refine ⟨⟨xs, xs[i], sq, hx⟩, Pv (i + 1), ?_, ?_⟩
    · intro σ' H' z
      exact ⟨xs.length - (i + 1), by omega, rfl, lt, z⟩
    · rintro v H' ⟨T, x, rfl, hT, rfl, same⟩
      exact hs i x σ H T (same xs sq) pv hT
  · left
    have e : i = xs.length := by omega
    subst e
    exact ⟨⟨xs, sq, Nat.le_refl _⟩, hd σ H pv⟩
section
variable {X : Cx} {C : Ct} {env : En} {cs : Cells} {P : Pst} {pos p pc tpos : Pos} {e : Expr} {elts : List Expr} {kk : Nat} {body : List Stmt}
/-- for i, x in enumerate(a list of data) -/
theorem as_enL {g : TG} {t : Da → En → (En → Prop) → Prop} (hc : X.calm = true) (hp : PassesOwn (model X.prog X.w) X.A X.env X.xe) (hg : Gl X "enumerate") (hm : X.mg "enumerate" = none) (hG : PG X (.Tuple elts kk tpos) g) (hT : TgS C.ca X.K g t)
    (h : AX X C e env cs fun x c1 => ∃ ds, x = .im (.lst ds) ∧ ∃ I : Iv, I 0 env c1 ∧ (∀ (i : Nat) d env1 c2, ds[i]? = some d → I i env1 c2 → t (.tup [.int (i : Nat), d]) env1 fun env2 => AB X C body env2 c2 { nx := I (i + 1), ct := I (i + 1), bk := P.nx, rt := P.rt }) ∧ ∀ env1 c2, I ds.length env1 c2 → P.nx env1 c2)
    (hs : starEach [e] X.env = [(false, eval e X.env)] := by rfl) (hf : ∀ x, foldedSetIterable (.Call (.Name "enumerate" p) [e] [] pc) X.env x = pure x := by intro _; rfl) : AS X C (.For (.Tuple elts kk tpos) (.Call (.Name "enumerate" p) [e] [] pc) body [] pos) env cs P := by
  refine (ps_for hp hc (pi_enum hg hm (pa_cons h pa_nil hs) hs) hG (ps_b3 (X := X) (C := C)) hf).imp fun D σ H ⟨ps, G, R, r, px, q⟩ => ?_
  refine ⟨ps, G, R, r, px, fun x c1 v G1 R1 H1 ⟨ds, ex, I, h0, hs, hd⟩ g1 r1 o1 => ?_⟩
  subst ex
  obtain ⟨a, xs, rfl, hS, dl⟩ := Dn.lst_inv o1
  have hS' : ∀ {G' R' H' : Hp}, Wd G' R' H' → Ex G1 G' → SqL X.K H' a xs := fun w ex => .inl (.inl (w.g _ _ (ex _ _ hS)))
  refine ⟨a, xs, rfl, hS' r1.wd (Ex.refl _), for_enL (xs := xs) (fun i σ' H' => ∃ env' c' ps' G' R', I i env' c' ∧ Gr ps G R ps' G' R' ∧ Ex G1 G' ∧ Rep C.ca X.K env' c' ps' σ' G' R' H') ⟨env, c1, ps, G1, R1, h0, g1, Ex.refl _, r1⟩ ?_ ?_ ?_⟩
  · rintro i σ' H' ⟨env', c', ps', G', R', hI, g', ex, r'⟩
    exact hS' r'.wd ex
  · rintro i y σ' H' T hy ⟨env', c', ps', G', R', hI, g', ex, r'⟩ hn
    obtain ⟨d, hd2, od⟩ := dl.at_ hy
    have e2 := Ex.new (o := HO.tup [.int (i : Nat), y]) (r'.wd.freshG hn)
    have rT := r'.newG (o := HO.tup [.int (i : Nat), y]) hn
    have oT : Dn C.ca X.K (upd G' T (.tup [.int (i : Nat), y])) (.ref T) (.tup [.int (i : Nat), d]) := .tup (.inl (.inl upd_same)) (.cons (.int _) (.cons ((od.mono ex).mono e2) .nil))
    have g2 : Gr ps G R ps' (upd G' T (.tup [.int (i : Nat), y])) R' := g'.trans (Gr.data e2)
    refine hT _ _ _ _ _ _ _ _ _ _ _ rT oT (hs i d env' c' hd2 hI) fun env2 σ2 hb r2 => ⟨env2, c', _, hb, ps', _, R', r2, px.on g2, ?_, ?_, ?_, ?_⟩
    · intro e3 c3 ps3 σ3 G3 R3 H3 h3 g3 r3
      exact ⟨e3, c3, ps3, G3, R3, h3, g2.trans g3, (ex.trans e2).trans g3.ex, r3⟩
    · exact q.rt.on g2
    · exact q.nx.on g2
    · intro e3 c3 ps3 σ3 G3 R3 H3 h3 g3 r3
      exact ⟨e3, c3, ps3, G3, R3, h3, g2.trans g3, (ex.trans e2).trans g3.ex, r3⟩
  · rintro σ' H' ⟨env', c', ps', G', R', hI, g', ex, r'⟩
    rw [dl.length] at hI
    exact q.nx env' c' ps' σ' G' R' H' (hd env' c' hI) g' r'
end
/-! ### [elt for i, x in enumerate(a tuple) if ..] -/
theorem lc_enT {K : PySem.W.Frag} {a : Addr} {xs : List V} {g : TG} {tt : TT} {te : TE} {vs : List Nat} {σ : L2.St} {H1 : Hp} {D : Addr} {Qd : Hp → Prop} (Pv : Nat → Hp → Prop) (h0 : Pv 0 (upd H1 D (.lst []))) (hl : ∀ i H, Pv i H → SqT K H a xs)
    (hs : ∀ i x H T, xs[i]? = some x → Pv i H → H T = none → g (.ref T) (wipe σ vs) (upd H T (.tup [.int (i : Nat), x])) fun σ2 H2 => wipe σ2 vs = wipe σ vs ∧ tt σ2 H2 fun b H3 =>
      if b = true then te σ2 H3 fun y H4 => ∃ acc, H4 D = some (.lst acc) ∧ acc.length < sizeLine ∧ Pv (i + 1) (upd H4 D (.lst (acc ++ [y]))) else Pv (i + 1) H3) (hd : ∀ H, Pv xs.length H → Qd H) :
    ∃ W : Nat → Nat → Hp → Prop, (∃ m, W 0 m (upd H1 D (.lst []))) ∧ ∀ i m H, W i m H →
      ((ItE K a).stop i H ∧ Qd H) ∨ ((ItE K a).go i H ∧ ∃ Nx : Hp → Prop, (∀ H', Nx H' → ∃ m', m' < m ∧ W (i + 1) m' H') ∧ ∀ x H', (ItE K a).yld i H x H' → g x (wipe σ vs) H' fun σ2 H2 => wipe σ2 vs = wipe σ vs ∧ tt σ2 H2 fun b H3 =>
        if b = true then te σ2 H3 fun y H4 => ∃ acc, H4 D = some (.lst acc) ∧ acc.length < sizeLine ∧ Nx (upd H4 D (.lst (acc ++ [y]))) else Nx H3) := by
  refine ⟨fun i m H => m = xs.length - i ∧ i ≤ xs.length ∧ Pv i H, ⟨xs.length, by simp, Nat.zero_le _, h0⟩, ?_⟩
  rintro i m H ⟨rfl, hi, pv⟩
  have sq := hl i H pv
  by_cases lt : i < xs.length
  · right
    have hx : xs[i]? = some xs[i] := List.getElem?_eq_getElem lt
    refine ⟨⟨xs, xs[i], sq, hx⟩, Pv (i + 1), ?_, ?_⟩
    · intro H' z
      exact ⟨xs.length - (i + 1), by omega, rfl, lt, z⟩
    · rintro v H' ⟨T, x, rfl, hT, rfl, same⟩
      exact hs i x H T (same xs sq) pv hT
  · left
    have e : i = xs.length := by omega
    subst e
    exact ⟨⟨xs, sq, rfl⟩, hd H pv⟩
section
variable {X : Cx} {C : Ct} {env : En} {cs : Cells} {k : KL} {pos p pc tpos : Pos} {e elt : Expr} {elts : List Expr} {kk : Nat} {ifs : List Expr} {scope : Scope} {own : List (Str × Nat)}
theorem wipe_set2 {σ : L2.St} {vs : List Nat} {i j : Nat} {x y : Option V} (hi : i ∈ vs) (hj : j ∈ vs) : wipe (((wipe σ vs).set i x).set j y) vs = wipe σ vs := by
  apply List.ext_getElem?
  intro n
  rw [wipe_at, List.length_set, List.length_set, wipe_length]
  by_cases hn : n ∈ vs ∧ n < σ.length
  · rw [if_pos hn, wipe_at, if_pos hn]
  · rw [if_neg hn]
    by_cases l : n < σ.length
    · have nv : n ∉ vs := fun m => hn ⟨m, l⟩
      rw [List.getElem?_set_ne (fun e => nv (by rw [← e]; exact hj)), List.getElem?_set_ne (fun e => nv (by rw [← e]; exact hi))]
    · rw [List.getElem?_eq_none (by rw [List.length_set, List.length_set, wipe_length]; omega), List.getElem?_eq_none (by rw [wipe_length]; omega)]
theorem al_lcE (i j : Nat) {x y : Str} {p0 p1 : Pos} (hc : X.calm = true) (hN : X.N.Nodup) (hg : Gl X "enumerate") (hm : X.mg "enumerate" = none) (ok : BlkOk X.N X.env.scope scope own) (hi : i ∈ own.map (·.2)) (hj : j ∈ own.map (·.2)) (hl : i < env.length) (hl2 : j < env.length) (hw : ∀ j ∈ own.map (·.2), ∀ a, env[j]? ≠ some (some a))
    (hG : Blk X scope fun Y => PG Y (.Tuple [.Name x p0, .Name y p1] kk tpos) (gTup X.K 2 (gCons (gName i) (gCons (gName j) gNil))))
    (h : AX X C e env cs fun z c1 => ∃ ds, z = .im (.tup ds) ∧ ∃ I : Ic, I 0 [] c1 ∧ (∀ (t : Nat) d acc c, ds[t]? = some d → I t acc c → AE1 X C scope ifs elt ((env.set i (some (.im (.int (t : Nat))))).set j (some (.im d))) c acc (I (t + 1))) ∧ ∀ acc c, I ds.length acc c → k acc c)
    (hs : starEach [e] X.env = [(false, eval e X.env)] := by rfl) (hf : ∀ x, foldedSetIterable (.Call (.Name "enumerate" p) [e] [] pc) X.env x = pure x := by intro _; rfl) :
    AL X C (.ListComp elt [⟨.Tuple [.Name x p0, .Name y p1] kk tpos, .Call (.Name "enumerate" p) [e] [] pc, ifs, 0⟩] scope pos) env cs k := by
  refine (pe_lc (own := own) (g := gTup X.K 2 (gCons (gName i) (gCons (gName j) gNil))) (tt := tTs X C scope ifs) (te := tEl X C scope elt) hc hN (pi_enT hg hm (pa_cons h pa_nil hs) hs) ok hG blk_pts blk_el hf).imp fun σ H Q ⟨ps, G, R, r, px, q⟩ => ?_
  refine ⟨ps, G, R, r, px, fun z c1 v G1 R1 H1 ⟨ds, ez, I, h0, ht, hd⟩ g1 r1 o1 => ?_⟩
  subst ez
  obtain ⟨a, xs, rfl, t1, dl⟩ := Dn.tup_inv o1
  refine ⟨a, xs, rfl, r1.wd.sqt t1, fun D hD => ?_⟩
  have hR0 := r1.wd.freshR hD
  have hn := r1.notin hD
  refine lc_enT (xs := xs) (fun t H' => Cst X C env ps σ G1 R1 D (I t) H') (comp_start r1 hD h0) ?_ ?_ fun H' hH => comp_end hR0 hn (fun es c2 p vs G2 R2 H2 h2 g2 => q es c2 p vs G2 R2 H2 (hd es c2 (by rw [← dl.length]; exact h2)) (g1.trans g2)) hH
  · rintro t H' ⟨c2, acc, vacc, G2, R2, hI, g2, r2, hD2, da⟩
    exact r2.wd.sqt (g2.ex.sqt t1)
  · rintro t y H' T hy ⟨c2, acc, vacc, G2, R2, hI, g2, r2, hD2, da⟩ hT
    obtain ⟨d, hd2, od⟩ := dl.at_ hy
    have e2 := Ex.new (o := HO.tup [.int (t : Nat), y]) (r2.wd.freshG hT)
    have rT := r2.newG (o := HO.tup [.int (t : Nat), y]) hT
    have gT : Gr ps G1 R1 ps (upd G2 T (.tup [.int (t : Nat), y])) R2 := g2.trans (Gr.data e2)
    have r3 := ((rT.wipe hw).setE (a := .im (.int (t : Nat))) (.int _) hl).setE (a := .im d) ((od.mono g2.ex).mono e2) (by rw [List.length_set]; exact hl2)
    refine ⟨T, [.int (t : Nat), y], rfl, .inl (.inl upd_same), rfl, ?_⟩
    refine ⟨.int (t : Nat), [y], rfl, y, [], rfl, rfl, ?_, ?_⟩
    · exact wipe_set2 hi hj
    · exact comp_turn (px.on g1) hR0 hn rT gT hD2 (da.mono e2) r3 (ht t d acc c2 hd2 hI)
end
section
variable {X : Cx} {C : Ct} {env : En} {cs : Cells} {k : KE} {pos : Pos} {a b : Expr}
/-- t[n:] of a tuple -/
def sTkD : Sem2 := fun x y cs k => ∃ (n : Nat) (l : List Da), y = .im (.int (n : Int)) ∧ x = .im (.tup l) ∧ k (.im (.tup (l.drop n))) cs
theorem cut_drop {xs : List V} {n : Nat} : cutV xs (some (n : Int)) none = xs.drop n := by
  unfold cutV
  rw [HT.sIx_none, HT.sIx_nat]
  by_cases h : n ≤ xs.length
  · rw [Nat.min_eq_left h]
    exact List.take_of_length_le (by rw [List.length_drop]; omega)
  · rw [Nat.min_eq_right (by omega), List.drop_of_length_le (Nat.le_refl _), List.drop_of_length_le (by omega), List.take_nil]
theorem ax_dropA {p2 : Pos} (h : AX X C a env cs fun x c1 => AX X C b env c1 fun y c2 => sTkD x y c2 k) : AX X C (.Subscript a (.Slice (some b) none none p2) pos) env cs k :=
  (pe_slice sl_tupA h (po_some (pe_x2 (X := X) (C := C) (env := env) (k2 := fun x y c2 => sTkD x y c2 k))) po_none).imp fun σ H Q ⟨ps, G, R, r, px, q⟩ => ⟨ps, G, R, r, px, fun x c1 v G1 R1 H1 hk g1 r1 o1 =>
    ⟨x, c1, hk, ps, G1, R1, r1, px.on g1, fun y c2 u G2 R2 H2 hf g2 r2 o2 => by
      obtain ⟨n, l, rfl, rfl, hk2⟩ := hf
      refine ⟨(n : Int), Dn.int_inv o2, ?_⟩
      obtain ⟨p, xs, e1, t1, dl⟩ := Dn.tup_inv (o1.mono g2.ex (fun _ _ z => z))
      refine ⟨p, xs, e1, r2.wd.sqt t1, fun hw => ?_, fun _ z hz => ?_⟩
      · have z0 : n = 0 ∨ l.length = 0 := by
          have h1 := hw.1
          rw [HT.sIx_nat, dl.length] at h1
          omega
        have e0 : l.drop n = l := by
          rcases z0 with z | z
          · rw [z]; rfl
          · rw [List.length_eq_zero_iff.mp z, List.drop_nil]
        rw [e0] at hk2
        exact q _ c2 _ G2 R2 H2 hk2 (g1.trans g2) r2 (.tup t1 dl)
      · rw [cut_drop]
        exact r2.tup (q.on (g1.trans g2)) hk2 (dl.drop n) hz⟩⟩
end
section
variable {X : Cx} {D : Ct} {env : En} {cs : Cells} {k : KE} {pos apos : Pos} {o : Expr} {kws : List Keyword} {c m : Str} {f g : Addr} {j n : Nat} {fd : FuncData} {ps ks : List Str} {ix : List Nat} {ψ : Ph}
/-- o.m(k = e, ..) -/
theorem ax_methK {pl : Sem Bool} (hc : Cls X.K (D.ca c)) (hm : Meth X.K (D.ca c) m g) (F : FnG X.prog X.w X.K X.mg X.base CX0 j g fd ps (spP D.ca X.K (n + 1) ψ)) (gd : X.A.guards = some []) (hr : Room j X.A) (hb : KWs fd ps 0 ks ix)
    (h : AX X D o env cs fun v c1 => ∃ fs ds, v = .im (.ins c fs ds) ∧ m ∉ fs ∧ AK X D kws env c1 fun as c2 => imL as fun ws => as.length = ks.length ∧ (pick ix ws).length = n ∧ ψ (.ins c fs ds :: pick ix ws) (fun d => k (.im d) c2) fun _ _ _ => False)
    (hall : (backToKw pos (keywordEach kws X.env)).all (·.1.isSome) = true := by rfl) (hks : (backToKw pos (keywordEach kws X.env)).filterMap (·.1) = ks := by rfl)
    (hpl : ((backTo pos (starEach [] X.env)).any (·.1) || (backToKw pos (keywordEach kws X.env)).any (·.1.isNone)) = false := by rfl)
    (ht : eval (.Call (.Attribute o m apos) [] kws pos) X.env = (do
      let ov ← eval o X.env
      standAt apos.atName
      let (f, first) ← holding [ov] (getMethod ov m pl)
      callWith pos f first (backTo pos (starEach [] X.env)) (backToKw pos (keywordEach kws X.env))) := by rfl)
    (mono : ∀ ds k1 k2 x1 x2, ψ ds k1 x1 → (∀ d, k1 d → k2 d) → (∀ c ks es, x1 c ks es → x2 c ks es) → ψ ds k2 x2 := by assumption) : AX X D (.Call (.Attribute o m apos) [] kws pos) env cs k := by
  refine ⟨fun pins s σ H Q I ⟨pz, G, R, r, px, q⟩ => ?_⟩
  refine PySem.W.methodCall_KW (pl := pl) (thn (h.run pins s σ H _ I ⟨pz, G, R, r, px, fun v c1 w G1 R1 H1 hk g1 r1 o1 => (⟨v, c1, G1, R1, hk, g1, r1, o1⟩ : ∃ v c1 G1 R1, (∃ fs ds, v = AV.im (.ins c fs ds) ∧ m ∉ fs ∧ AK X D kws env c1 fun as c2 => imL as fun ws => as.length = ks.length ∧ (pick ix ws).length = n ∧ ψ (.ins c fs ds :: pick ix ws) (fun d => k (.im d) c2) fun _ _ _ => False) ∧ Gr pz G R pz G1 R1 ∧ Rep D.ca X.K env c1 pz σ G1 R1 H1 ∧ AVok D.ca X.K G1 pz w v)⟩) ?_) ht
  rintro u s1 ⟨w, H1, I1, rx, v, c1, G1, R1, ⟨ks', ds, rfl, hnm, haa⟩, g1, r1, o1⟩
  have o1' := o1
  obtain ⟨a, dx, fs, rfl, ha, rfl, dl⟩ := Dn.ins_inv o1
  obtain rfl : u = Value.ref a := rx
  refine getmeth_ok I1 (r1.wd.g _ _ ha) hc hm (look_no hnm) ?_
  refine PySem.W.callWith_KW0 (first := [.ref a]) (h₀ := X.base) I1.ok.mod.kin hm.kp hall (thn (haa.run pos pins s1 σ H1 _ I1 ⟨pz, G1, R1, r1, px.on g1, fun as c2 ws G2 R2 H2 hk g2 r2 o2 => (⟨as, c2, G2, R2, hk, g2, r2, o2⟩ : ∃ as c2 G2 R2, (imL as fun ws => as.length = ks.length ∧ (pick ix ws).length = n ∧ ψ (.ins c (fs.map (·.1)) ds :: pick ix ws) (fun d => k (.im d) c2) fun _ _ _ => False) ∧ Gr pz G1 R1 pz G2 R2 ∧ Rep D.ca X.K env c2 pz σ G2 R2 H2 ∧ AVokL D.ca X.K G2 pz ws as)⟩) ?_) hpl
  rintro us s2 ⟨ws, H2, I2, rv, as, c2, G2, R2, hk, g2, r2, o2⟩
  obtain ⟨es', rfl, hl, hn, hψ⟩ := imL_of hk
  have dl2 := pick_dn (AVokL.ims o2) ix
  have want : spP D.ca X.K (n + 1) ψ (.ref a :: pick ix ws) H2 Q (fun _ _ _ => False) := ⟨G2, R2, _, by rw [List.length_cons, dl2.length, hn], r2.wd, .cons (Dn.mono g2.ex o1') dl2, mono _ _ _ _ _ hψ (fun d hd v G3 H3 ex w o => q _ c2 v G3 R2 H3 hd ((g1.trans g2).trans (Gr.data ex)) (r2.grow ex w) o) fun c ks es hf => hf.elim⟩
  have r3 : Vals (V.ref a :: pick ix ws) (Value.ref a :: pick ix us) := .cons rfl (pick_vals rv ix)
  rw [hks]
  exact ⟨I2.kIn, run_fnGA (args := ⟨Value.ref a :: [], ks.zip us⟩) F gd hr (hb s2 (.ref a) [] us rfl (rv.length.symm.trans (o2.len.trans hl))) pass0 I2 r3 want⟩
end
end Al
/-! sorted(a tuple of texts); != of instances with an own __eq__ -/
namespace Al
open PySem PySem.Spec PyProof.Rows L2
/-- nothing that stood is gone -/
def Grown (a b : Heap) : Prop := ∀ x o, a.get? x = some o → b.get? x = some o
/-- what a value gives when all its items are taken: the heap only grows -/
def Gives (prog : Program) (w : World) (A : Around) (u : Value) (items : List Value) (s : Shared) : Prop :=
  ∀ (R : List Value → Shared → Prop) (E : Value → Shared → Prop), (∀ g : Heap, Grown s.heap g → R items { s with heap := g }) → wpAny (model prog w) A (collect u) R E s
/-- sorted of what gives few texts: a new list behind all that stood -/
theorem sorted_given {prog : Program} {w : World} {A : Around} {E : Value → Shared → Prop} {s : Shared} {u : Value} {items : List Value} {zs : List Str} {Q : Value → Shared → Prop} (txt : StrsAre items zs) (len : items.length = zs.length) (few : zs.length < 64)
    (gv : Gives prog w A.in1 u items s) (fin : ∀ (g g2 : Heap) (out : List Value) (ys : List Str) (e : Nat), Grown s.heap g → Grown g g2 → g2.get? g.objs.size = some (seqObj "list" out.toArray e) → StrsAre out ys → ys.Perm zs → sortedS ys = true → Q (.ref g.objs.size) { s with heap := g2 }) :
    wpAny (model prog w) A (call (.builtin "sorted") [u]) Q E s := by
  apply Calls.call_function_entry kind_sorted plain_sorted entry_sorted (args_sorted1 _)
  show wpAny _ _ (Builtin.«sorted» _) _ _ _
  unfold Builtin.«sorted»
  apply wpAny_bind (m := checkCount "sorted" 1 1 _)
  apply wpAny_pure
  apply wpAny_bind
  refine gv _ _ fun g gr => wpAny_bind (wpAny_newList ?_ (by rw [len]; exact Nat.le_trans (Nat.le_of_lt few) (by decide)))
  have at1 : (g.push (seqObj "list" items.toArray 0)).get? g.objs.size = some (seqObj "list" items.toArray 0) := Heap.get?_push_size g rfl
  have ends : ∀ st : SortSt, (arrOf st).Perm (pairsOf items) → SortedToK strKind (arrOf st) (pairsOf items).size → Q (.ref g.objs.size) { s with heap := sortedHeap (g.push (seqObj "list" items.toArray 0)) g.objs.size items ((arrOf st).map (·.2)) } := by
    intro st perm srt
    obtain ⟨ys, t1, t2, t3⟩ := sorted_out_str txt perm srt
    obtain ⟨e, at2⟩ := sortedHeap_at (vs := items) (out := (arrOf st).map (·.2)) at1
    refine fin g _ ((arrOf st).map (·.2)).toList ys e gr (fun x o q => ?_) (by rw [Array.toArray_toList]; exact at2) t1 t2 t3
    have lt := Heap.lt_size q
    have q1 : (g.push (seqObj "list" items.toArray 0)).get? x = some o := Heap.get?_push_of_some _ q
    rw [sortedHeap_old (Nat.ne_of_lt lt) (Heap.lt_size q1)]
    exact q1
  have same : ∀ (a b : Value) (rest : List Value), items = a :: b :: rest → _ := fun a b rest e => keyKind_strs (by rw [← e]; exact txt)
  refine wpAny_bind (wpAny_holding (wpAny_call_entry slot_list_sort ⟨_, at1, rfl⟩ entry_list_sort ?_ (args_list_sort _)))
  apply list_sort_treeK strKind_oneLt (s := { s with heap := g.push (seqObj "list" items.toArray 0) }) at1 txt.keysOf same
  · rw [len]
    exact few
  · exact fun st perm srt => ⟨_, rfl, wpAny_pure ⟨_, rfl, ends st perm srt⟩⟩
def rSoT (K : PySem.W.Frag) : List V → Hp → VK → Prop := fun vs H Q => ∃ (t : Addr) (zs : List Str), vs = [.ref t] ∧ SqT K H t (zs.map .str) ∧ zs.length < 64 ∧ ∀ (ws : List Str) (l : Addr), ws.Perm zs → sortedS ws = true → H l = none → Q (.ref l) (upd H l (.lst (ws.map .str)))
theorem cr_sortedST {X : Cx} : CallR X (.builtin "sorted") (rSoT X.K) := by
  rintro pins s σ H _ us Q I rel ⟨t, zs, rfl, tup, few, next⟩
  obtain ⟨items, vals, ⟨o, ho, cls, m, dat⟩, _⟩ := I.tuple tup
  have len : items.length = zs.length := by
    have := vals.length
    rw [List.length_map] at this
    exact this.symm
  rw [Vals.ref1 rel]
  refine sorted_given vals.strs len few (fun R E k => wpAny_collect_seq t (T := "tuple") (.inr rfl) ho cls dat (fun g gr => ?_) (by rw [List.size_toArray, len]; exact Nat.le_trans (Nat.le_of_lt few) (by decide))) fun g g2 out ws e gr gr2 at2 so pm srt => ?_
  · have z := k g gr
    simpa using z
  · have J := I.kept (t' := s.toks) gr
    have small : (ws.map V.str).length ≤ sizeLine := by
      rw [List.length_map, pm.length_eq]
      exact small64 few
    exact ⟨.ref g.objs.size, _, J.laid (t' := s.toks) gr2 (Nat.le_refl _) (o := .lst (ws.map V.str)) ⟨small, out, e, vals_of_strs so, at2⟩, rfl, next ws _ pm srt (J.hok.fresh (Nat.le_refl _))⟩
/-- sorted of a tuple of texts -/
def sSoT : SemL := fun as cs k => ∃ xs, as = [.im (.tup (xs.map Da.str))] ∧ xs.length < 64 ∧ ∀ ys : List Str, ys.Perm xs → sortedS ys = true → k (ys.map Da.str) cs
theorem cl_soT {ca : Str → Addr} {K : PySem.W.Frag} : CbL ca K (rSoT K) sSoT := by
  rintro env cs ps σ G R H as ws k Q r o ⟨xs, rfl, h64, h⟩ q
  obtain ⟨w, rfl, o1⟩ := av1 o
  obtain ⟨p, ys, rfl, t, dl⟩ := Dn.tup_inv o1
  have sq := r.wd.sqt t
  rw [dl.strs] at sq
  exact ⟨p, xs, rfl, sq, h64, fun ys p hy hs hp => q _ cs p _ G R H (h ys hy hs) (Gr.refl ps G R) r hp (DnL.of_strs ys)⟩
section
variable {X : Cx} {C : Ct} {env : En} {cs : Cells} {kl : KL} {pos p : Pos} {e : Expr} {es : List Expr}
theorem al_soT (hg : Gl X "sorted") (hm : X.mg "sorted" = none) (h : AA X C (e :: es) env cs fun as c1 => sSoT as c1 kl) (he : starEach (e :: es) X.env = (false, eval e X.env) :: starEach es X.env := by rfl) (hpl : (backTo pos (starEach es X.env)).any (·.1) = false := by rfl) :
    AL X C (.Call (.Name "sorted" p) (e :: es) [] pos) env cs kl := al_cb (cr_sortedST (X := X)) cl_soT hg hm (by decide +kernel) h (by decide) (by decide) he hpl
end
/-! ### x != y of two instances of a class with an own __eq__ -/
/-- what of the text the class must have -/
structure EqC (K : PySem.W.Frag) (C f : Addr) : Prop where
  ex : ∃ (nm q : Str) (N : Addr) (bs : List Value) (hdct : Bool) (sn : List Str) (sub : List Value) (ab : Bool) (col : Option Bool) (dd : Option Addr) (k0 k1 k2 k3 k5 : Option Value) (newId : String) (on of : Obj) (es : Array DictEntry) (ep : Nat),
    K.lookup C = some (excClassObj nm q C N bs [.type "object"] hdct sn sub ab col dd k0 k1 k2 k3 k5 newId) ∧ K.lookup N = some on ∧ on.data = .dict es ep ∧ StrKeys es ∧ nsFind es "__eq__" = some (.ref f) ∧ nsFind es "__ne__" = none ∧ K.lookup f = some of ∧ of.cls = .type "function"
section
variable {X : Cx} {CX : CXT} {C f : Addr} {k : Nat} {fd : FuncData} {ps : List Str} {sp : Sp} {E : XK}
theorem op_neO (EQ : EqC X.K C f) (F : FnG X.prog X.w X.K X.mg X.base CX k f fd ps sp) (gd : X.A.guards = some []) (hr : Room (k + 1) X.A) (hb : Binds X.K fd ps []) (hx : Passes CX X E) (hl : ps.length = 2) (hu : X.A.units + 1 < cLine) :
    OpR X (compareOp .NotEq) (fun x y H Q => ∃ a b dx fs dx' fs', x = .ref a ∧ y = .ref b ∧ H a = some (.ins C dx fs) ∧ H b = some (.ins C dx' fs') ∧ sp [.ref a, .ref b] H (fun v H2 => ∃ z, v = .bl z ∧ Q (.bl (!z)) H2) E) := by
  intro pins s σ H x y v u Q I rx ry h
  obtain ⟨a, b, dx, fs, dx', fs', rfl, rfl, ea, eb, want⟩ := h
  obtain rfl : v = Value.ref a := rx
  obtain rfl : u = Value.ref b := ry
  obtain ⟨mA, O, _⟩ := ins_get I.hok ea
  obtain ⟨mB, O', _⟩ := ins_get I.hok eb
  obtain ⟨nm, q, N, bs, hdct, sn, sub, ab, col, dd, k0, k1, k2, k3, k5, newId, on, of, es, ep, lC, lN, dN, sk, fe, fn, lf, fc⟩ := EQ.ex
  have bt := hb s [.ref a, .ref b] I.kIn (by rw [hl]; rfl)
  have kin := I.kIn
  have call2 : wpAny (model X.prog X.w) X.A.in1 (call (.ref f) [.ref a, .ref b]) (fun v s' => ∃ z, v = .bool z ∧ EP X pins σ Q (.bool (!z)) s') X.xe s := by
    refine wpAny_call (codeAny_mono (F.run X.A.in1 X.stack s H ⟨[.ref a, .ref b], []⟩ [.ref a, .ref b] [.ref a, .ref b] _ E (in1_guards gd) hr.in1 I.env0.in1 bt (.cons rfl (.cons rfl .nil)) want) fun rr s' hq => ?_)
    cases rr with
    | error er => exact hx pins σ H s er s' I hq
    | ok fl =>
      cases fl with
      | ret u =>
        obtain ⟨v, H', I3, rv, z, rfl, q3⟩ := I.after hq
        have eu : u = Value.bool z := rv
        subst eu
        exact ⟨z, rfl, .bl (!z), H', I3, rfl, q3⟩
      | next => exact (show False from hq).elim
      | brk => exact (show False from hq).elim
      | cont => exact (show False from hq).elim
  have Y : s.heap.OwnEqNoNe a C f "object" [.type "object"] :=
    ⟨_, of, nm, q, N, bs, hdct, sn, sub, ab, col, dd, k0, k1, k2, k3, k5, newId, fun n => nsFind es n, _, O.obj, rfl, kin _ _ lC, ⟨on, es, ep, kin _ _ lN, dN, sk, fun _ => rfl⟩, fe, kin _ _ lf, fc, PySem.F.mro_object, PySem.F.cmp_object.eq.lookup, fn⟩
  obtain ⟨hh, g, d, t, os⟩ := s
  exact compareOp_ne_ownEq PySem.F.cmp_object Y O'.obj rfl hu call2
end
section
variable {X : Cx} {D : Ct} {env : En} {cs : Cells} {k : KE} {kt : KT} {pos : Pos} {a b : Expr} {c : Str} {g : Addr} {j : Nat} {fd : FuncData} {ps : List Str} {ψ : Ph}
/-- a != b, both of the class c -/
def sNeO (c : Str) (ψ : Ph) : Sem2 := fun x y cs k => ∃ ks ds ks' ds', x = .im (.ins c ks ds) ∧ y = .im (.ins c ks' ds') ∧ ψ [.ins c ks ds, .ins c ks' ds'] (fun d => ∃ z, d = .bl z ∧ k (.im (.bl (!z))) cs) fun _ _ _ => False
theorem ax_neO (EQ : EqC X.K (D.ca c) g) (F : FnG X.prog X.w X.K X.mg X.base CX0 j g fd ps (spP D.ca X.K 2 ψ)) (gd : X.A.guards = some []) (hr : Room (j + 1) X.A) (hb : Binds X.K fd ps []) (hl : ps.length = 2) (hu : X.A.units + 1 < cLine)
    (h : AX X D a env cs fun x c1 => AX X D b env c1 fun y c2 => sNeO c ψ x y c2 k) (mono : ∀ ds k1 k2 x1 x2, ψ ds k1 x1 → (∀ d, k1 d → k2 d) → (∀ c ks es, x1 c ks es → x2 c ks es) → ψ ds k2 x2 := by assumption) : AX X D (.Compare a [.NotEq] [b] pos) env cs k := by
  refine ax_cmp (op_neO (E := fun _ _ _ => False) EQ F gd hr hb pass0 hl hu) (f := sNeO c ψ) ?_ (nomark _) h
  rintro env cs ps σ G R H x y v u k Q r ox oy ⟨ks, ds, ks', ds', rfl, rfl, hψ⟩ q
  have ox' := ox
  have oy' := oy
  obtain ⟨x1, dx, fs, rfl, ha, rfl, dl⟩ := Dn.ins_inv ox
  obtain ⟨y1, dy, fs2, rfl, hb2, rfl, dl2⟩ := Dn.ins_inv oy
  refine ⟨x1, y1, dx, fs, dy, fs2, rfl, rfl, r.wd.g _ _ ha, r.wd.g _ _ hb2, G, R, _, rfl, r.wd, .cons ox' (.cons oy' .nil), mono _ _ _ _ _ hψ (fun d hd v G2 H2 ex w o => ?_) fun c ks es hf => hf.elim⟩
  obtain ⟨z, rfl, hk⟩ := hd
  exact ⟨z, Dn.bl_inv o, q _ cs _ G2 R H2 hk (Gr.data ex) (r.grow ex w) (.bl (!z))⟩
theorem at_neO (EQ : EqC X.K (D.ca c) g) (F : FnG X.prog X.w X.K X.mg X.base CX0 j g fd ps (spP D.ca X.K 2 ψ)) (gd : X.A.guards = some []) (hr : Room (j + 1) X.A) (hb : Binds X.K fd ps []) (hl : ps.length = 2) (hu : X.A.units + 1 < cLine)
    (h : AX X D a env cs fun x c1 => AX X D b env c1 fun y c2 => sNeO c ψ x y c2 fun v c3 => ∃ z, v = .im (.bl z) ∧ kt z c3) (mono : ∀ ds k1 k2 x1 x2, ψ ds k1 x1 → (∀ d, k1 d → k2 d) → (∀ c ks es, x1 c ks es → x2 c ks es) → ψ ds k2 x2 := by assumption) : AT X D (.Compare a [.NotEq] [b] pos) env cs kt := by
  refine at_cmpR (op_neO (E := fun _ _ _ => False) EQ F gd hr hb pass0 hl hu) (f := sNeO c ψ) ?_ (nomark _) h
  rintro env cs ps σ G R H x y v u k Q r ox oy ⟨ks, ds, ks', ds', rfl, rfl, hψ⟩ q
  have ox' := ox
  have oy' := oy
  obtain ⟨x1, dx, fs, rfl, ha, rfl, dl⟩ := Dn.ins_inv ox
  obtain ⟨y1, dy, fs2, rfl, hb2, rfl, dl2⟩ := Dn.ins_inv oy
  refine ⟨x1, y1, dx, fs, dy, fs2, rfl, rfl, r.wd.g _ _ ha, r.wd.g _ _ hb2, G, R, _, rfl, r.wd, .cons ox' (.cons oy' .nil), mono _ _ _ _ _ hψ (fun d hd v G2 H2 ex w o => ?_) fun c ks es hf => hf.elim⟩
  obtain ⟨z, rfl, hk⟩ := hd
  exact ⟨z, Dn.bl_inv o, q _ cs _ G2 R H2 hk (Gr.data ex) (r.grow ex w) (.bl (!z))⟩
end
end Al
/-! the end of a law whose def is told by FnG -/
namespace Al
open PySem PySem.Spec PyProof.Rows L2
section
variable {P : Program} {w : World} {K : PySem.W.Frag} {mg mb : Str → Option Value} {k : Nat} {fa a : Addr} {fd : FuncData} {x : Str} {sp : Sp} {s : Shared} {us : List Value} {ns : List Int}
/-- from an abstract heap H that holds the script at most -/
theorem end_from (inK : K.In s.heap) (top : s.heap.Ns mainGlobals mg) (bl : s.heap.Ns builtinsNs mb) (blt : ∀ x : Str, x ≠ "__name__" → mb x = bootBuiltins x) (lim : s.heap.NoLimit) (gen : s.gens = #[])
    (scr : s.heap.get? a = some { cls := .type "list", data := .seq us.toArray }) (room : Room k callerA) (F : ∀ base : Heap, K.In base → base.Ns mainGlobals mg → FnG P w K mg base CX0 k fa fd [x] sp)
    (bnd : ∀ (s : Shared) (u : Value), BindsTo s fd ⟨[u], []⟩ [(x, u)]) (H : Hp) (only : Only H) (ok : HOk P w H s.heap) (at_a : ∀ b, H b ≠ none → b = a) (not_k : H a ≠ none → K.lookup a = none) (want : sp [.ref a] H (fun v _ => v = .bl true) fun _ _ _ => False) :
    codeAny (model P w) callerA (.call (.ref fa) ⟨[.ref a], []⟩) (fun r s' => r = .ok (.ret (.bool true)) ∧ OldK s.heap s'.heap ∧ s'.os = s.os ∧ AllBare s'.gens) s := by
  have hid : ∀ b, H b ≠ none → b = a ∧ K.lookup a = none := fun b n => by
    have e := at_a b n
    subst e
    exact ⟨rfl, not_k n⟩
  have vis : ∀ {b : Addr} {o : Obj}, s.heap.get? b = some o → (b = a → False) → (hidT s.heap H).get? b = some o := fun {b o} e n => by
    refine hidT_get e ?_
    cases q : H b with
    | none => rfl
    | some u => exact (n (at_a b (by rw [q]; exact fun z => nomatch z))).elim
  have dct : ∀ {b : Addr} {m : Str → Option Value}, s.heap.Ns b m → (hidT s.heap H).Ns b m := by
    rintro b m ⟨o, es, ep, e, d, r⟩
    refine ⟨o, es, ep, vis e fun z => ?_, d, r⟩
    subst z
    rw [scr] at e
    have d' := Option.some.inj e
    subst d'
    exact nomatch (show Data.seq us.toArray _ = Data.dict es ep from d)
  have frag : K.In (hidT s.heap H) := by
    intro b o e
    by_cases z : b = a
    · subst z
      refine hidT_get (inK b o e) ?_
      cases q : H b with
      | none => rfl
      | some u =>
        have n := not_k (by rw [q]; exact fun z => nomatch z)
        rw [n] at e
        cases e
    · exact vis (inK b o e) z
  have md : Mod K mg (hidT s.heap H) := by
    obtain ⟨mc, l1, l2⟩ := lim
    exact ⟨frag, dct top, ⟨mb, dct bl, blt⟩, ⟨mc, dct l1, l2⟩⟩
  have start : Env0 P w K mg (hidT s.heap H) callerA [] s H := by
    refine ⟨rfl, md, fun b o e => of_hidT e, ?_, trivial, fun b m => ?_, ok, .of_eq gen⟩
    · rw [hidT_size]
      exact Nat.le_refl _
    · exact (List.not_mem_nil m).elim
  refine codeAny_mono ((F _ frag (dct top)).run callerA [] s H ⟨[.ref a], []⟩ [.ref a] [.ref a] _ _ rfl room start (bnd s (.ref a)) (.cons rfl .nil) want) ?_
  intro r s' z
  rcases r with er | fl
  · exact (show False from z).elim
  cases fl with
  | ret u =>
    obtain ⟨v, H', os', bare', un, ok', rv, hv⟩ := z
    have hv' : v = .bl true := hv
    subst hv'
    have eu : u = Value.bool true := rv
    subst eu
    refine ⟨rfl, OldK.of_keep ?_, os', bare'⟩
    intro b o e
    cases q : H b with
    | none => exact un.keep b o e q (List.not_mem_nil ·) (List.not_mem_nil ·)
    | some u =>
      rcases only b with n | ⟨ob, xs, n⟩
      · rw [q] at n
        cases n
      · obtain ⟨y1, _⟩ := ok b _ n
        obtain ⟨y2, _⟩ := ok' b _ (un.frzs b ob _ n)
        rw [y1] at e
        rw [← e]
        exact y2
  | next => exact (show False from z).elim
  | brk => exact (show False from z).elim
  | cont => exact (show False from z).elim
theorem end_of (inK : K.In s.heap) (top : s.heap.Ns mainGlobals mg) (bl : s.heap.Ns builtinsNs mb) (blt : ∀ x : Str, x ≠ "__name__" → mb x = bootBuiltins x) (lim : s.heap.NoLimit) (gen : s.gens = #[])
    (scr : s.heap.get? a = some { cls := .type "list", data := .seq us.toArray }) (inz : IntsAre us ns) (few : ns.length ≤ sizeLine) (room : Room k callerA) (F : ∀ base : Heap, K.In base → base.Ns mainGlobals mg → FnG P w K mg base CX0 k fa fd [x] sp)
    (bnd : ∀ (s : Shared) (u : Value), BindsTo s fd ⟨[u], []⟩ [(x, u)]) (want : ∀ H : Hp, Only H → SqL K H a (ns.map V.int) → sp [.ref a] H (fun v _ => v = .bl true) fun _ _ _ => False) :
    codeAny (model P w) callerA (.call (.ref fa) ⟨[.ref a], []⟩) (fun r s' => r = .ok (.ret (.bool true)) ∧ OldK s.heap s'.heap ∧ s'.os = s.os ∧ AllBare s'.gens) s := by
  have vals := vals_ints inz
  cases hk : K.lookup a with
  | some o =>
    have same := (inK a o hk).symm.trans scr
    have eo := Option.some.inj same
    subst eo
    have sq : SqL K (fun _ => none) a (ns.map V.int) := .inr ⟨_, us.toArray, _, hk, rfl, rfl, rfl, by rw [List.size_toArray, inz.length]; exact few, by simpa using vals⟩
    refine end_from inK top bl blt lim gen scr room F bnd (fun _ => none) (fun _ => .inl rfl) ?_ (fun b n => (n rfl).elim) (fun n => (n rfl).elim) (want _ (fun _ => .inl rfl) sq)
    intro b u z
    exact nomatch (show (none : Option HO) = some u from z)
  | none =>
    let H : Hp := fun b => if b = a then some (.frz { cls := .type "list", data := .seq us.toArray } (.lst (ns.map V.int))) else none
    have Ha : H a = some (.frz { cls := .type "list", data := .seq us.toArray } (.lst (ns.map V.int))) := if_pos rfl
    have Hn : ∀ b, b ≠ a → H b = none := fun b n => if_neg n
    have only : Only H := fun b => by
      by_cases z : b = a
      · subst z
        exact .inr ⟨_, _, Ha⟩
      · exact .inl (Hn b z)
    refine end_from inK top bl blt lim gen scr room F bnd H only ?_ ?_ (fun _ => hk) (want H only (.inl (.inr ⟨_, Ha⟩)))
    · intro b u z
      by_cases n : b = a
      · subst n
        rw [Ha] at z
        have eu := Option.some.inj z
        subst eu
        exact ⟨scr, by rw [List.length_map]; exact few, us, _, vals, scr⟩
      · rw [Hn b n] at z
        cases z
    · intro b n
      by_cases z : b = a
      · exact z
      · exact (n (Hn b z)).elim
end
/-- a law over data: its def comes to True for every script of at most n ints -/
theorem walkG {l : PySem.W.OpenLaw} {n k : Nat} {q : Program} {loose : List Str} {XP : (Str → Option Value) → Heap → Prop} {YP : World → Heap → Prop} {d : DefRec} {K : Params → PySem.W.Frag} {x : Str} {ca : Params → Str → Addr} {φ : Ph}
    (hn : l.most = some n) (hn2 : n ≤ sizeLine) (hdf : d.params.defaults = []) (room : Room k callerA) (inK : ∀ (w : World) (h : Heap), YP w h → (K w.params).In h)
    (F : ∀ (w : World) (mg : Str → Option Value) (fa : Addr) (h : Heap), (K w.params).In h → h.Ns mainGlobals mg → mg d.name = some (.ref fa) →
      ∃ fd : FuncData, (∀ (s : Shared) (u : Value), BindsTo s fd ⟨[u], []⟩ [(x, u)]) ∧ ∀ base : Heap, (K w.params).In base → base.Ns mainGlobals mg → FnG l.prog w (K w.params) mg base CX0 k fa fd [x] (spP (ca w.params) (K w.params) 1 φ))
    (hφ : ∀ ns : List Int, ns.length ≤ n → ∀ (p : Da → Prop) (kx : Str → List Str → List Da → Prop), p (.bl true) → φ [.scr ns] p kx) :
    PySem.W.WalkO q loose XP YP l.row.toRowW d [] (fun f vs => PySem.call f vs) := by
  refine Att.attach_call hn hdf ?_
  intro w s0 s1 mg mb fa o pm cd doc a vs ns G Y ho hd hcd hmg hobj hints hlen hg
  have KX := inK w _ Y
  obtain ⟨fd, hb, hF⟩ := F w mg fa _ KX G.T.g hmg
  refine end_of KX G.T.g G.T.b G.T.builtins G.T.nolimit hg hobj hints (Nat.le_trans hlen hn2) room hF hb fun H only sq => ?_
  refine ⟨H, fun _ => none, [.scr ns], rfl, ⟨fun _ _ e => e, (fun _ _ e => nomatch e), fun _ _ _ => rfl⟩, .cons (.scr sq) .nil, hφ ns hlen _ _ fun v G' H' _ _ o => Dn.bl_inv o⟩
end Al
open PySem PySem.Spec PyProof.Rows L2 Al
namespace Al
section
theorem ax_to {X : Cx} {C : Ct} {env : En} {cs : Cells} {k : KE} {e : Expr} (k' : KE) (h : AX X C e env cs k') (i : ∀ a c, k' a c → k a c) : AX X C e env cs k :=
  PE.imp h fun σ H Q ⟨ps, G, R, r, px, q⟩ => ⟨ps, G, R, r, px, fun a c w G1 R1 H1 hk g1 r1 o1 => q a c w G1 R1 H1 (i a c hk) g1 r1 o1⟩
theorem at_to {X : Cx} {C : Ct} {env : En} {cs : Cells} {k : KT} {e : Expr} (k' : KT) (h : AT X C e env cs k') (i : ∀ a c, k' a c → k a c) : AT X C e env cs k :=
  PT.imp h fun σ H Q ⟨ps, G, R, r, px, q⟩ => ⟨ps, G, R, r, px, fun a c G1 R1 H1 hk g1 r1 => q a c G1 R1 H1 (i a c hk) g1 r1⟩
theorem i1 {i : Int} {cs : Cells} {k : KE} {g : Int → Int} (h : k (.im (.int (g i))) cs) : sI1 g [.im (.int i)] cs k := h
theorem i2 {i j : Int} {cs : Cells} {k : KE} {g : Int → Int → Int} (h : k (.im (.int (g i j))) cs) : sI2 g [.im (.int i), .im (.int j)] cs k := h
theorem iAdd {i j : Int} {cs : Cells} {k : KE} (h : k (.im (.int (i + j))) cs) : sAdd (.im (.int i)) (.im (.int j)) cs k := h
theorem lAdd {i j : List Da} {cs : Cells} {k : KE} (z : i.length + j.length ≤ 16000000) (h : k (.im (.lst (i ++ j))) cs) : sAdd (.im (.lst i)) (.im (.lst j)) cs k := ⟨z, h⟩
theorem oAdd {n : Nat} {i j : List Da} {cs : Cells} {k : KE} (hc : cs[n]? = some (some i)) (z : i.length + j.length ≤ 16000000) (h : k (.im (.lst (i ++ j))) cs) : sAdd (.ow n) (.im (.lst j)) cs k := ⟨i, hc, z, h⟩
theorem iMul {i j : Int} {cs : Cells} {k : KE} (c : CMul i j) (h : k (.im (.int (i * j))) cs) : sMul (.im (.int i)) (.im (.int j)) cs k := ⟨c, h⟩
theorem iOp {i j : Int} {cs : Cells} {k : KE} {Cd : Int → Int → Prop} {g : Int → Int → Da} (c : Cd i j) (h : k (.im (g i j)) cs) : sInt Cd g (.im (.int i)) (.im (.int j)) cs k := ⟨c, h⟩
theorem iCmp {i j : Int} {cs : Cells} {k : KE} {g : Int → Int → Bool} {gs : Str → Str → Bool} (h : k (.im (.bl (g i j))) cs) : sCmp g gs (.im (.int i)) (.im (.int j)) cs k := h
theorem sCmpS {i j : Str} {cs : Cells} {k : KE} {g : Int → Int → Bool} {gs : Str → Str → Bool} (h : k (.im (.bl (gs i j))) cs) : sCmp g gs (.im (.str i)) (.im (.str j)) cs k := h
theorem oIx {cs : Cells} {k : KE} {j : Nat} {i : Int} {ds : List Da} {d : Da} (hc : cs[j]? = some (some ds)) (ha : atI ds i = some d) (h : k (.im d) cs) : sIx (.ow j) (.im (.int i)) cs k := ⟨ds, d, hc, ha, h⟩
theorem lIx {cs : Cells} {k : KE} {i : Int} {ds : List Da} {d : Da} (ha : atI ds i = some d) (h : k (.im d) cs) : sIx (.im (.lst ds)) (.im (.int i)) cs k := ⟨d, ha, h⟩
theorem sIxS {cs : Cells} {k : KE} {i : Int} {ds : List Int} {d : Int} (ha : atI ds i = some d) (h : k (.im (.int d)) cs) : sIx (.im (.scr ds)) (.im (.int i)) cs k := ⟨d, ha, h⟩
theorem lenS {cs : Cells} {k : KE} {l : List Int} (h : k (.im (.int l.length)) cs) : sLen [.im (.scr l)] cs k := h
theorem lenT {cs : Cells} {k : KE} {l : List Da} (h : k (.im (.int l.length)) cs) : sLen [.im (.tup l)] cs k := h
theorem lenL {cs : Cells} {k : KE} {l : List Da} (h : k (.im (.int l.length)) cs) : sLen [.im (.lst l)] cs k := h
theorem cR {i j : Int} (h : -(2 ^ 64) < j ∧ j < 2 ^ 64) : CMul i j := .inr h
theorem cL {i j : Int} (h : -(2 ^ 64) < i ∧ i < 2 ^ 64) : CMul i j := .inl h
theorem eqInt {i j : Int} {g : Bool → Bool} {cs : Cells} {k : KE} (h : k (.im (.bl (g (i == j)))) cs) : sEqv g (.im (.int i)) (.im (.int j)) cs k := .inr ⟨.int i, .int j, rfl, rfl, rfl, rfl, rfl, rfl, h⟩
theorem eqStr {i j : Str} {g : Bool → Bool} {cs : Cells} {k : KE} (h : k (.im (.bl (g (decide (i = j))))) cs) : sEqv g (.im (.str i)) (.im (.str j)) cs k := .inl ⟨i, j, rfl, rfl, h⟩
theorem tst {z : Bool} {p : Bool → Prop} (h : p z) : ∃ y, (AV.im (.bl z)) = .im (.bl y) ∧ p y := ⟨z, rfl, h⟩
theorem ngS {i : Int} {p : Int → Prop} (h : p i) : ∃ j, (AV.im (.int i)) = .im (.int j) ∧ p j := ⟨i, rfl, h⟩
theorem imN {k : List Da → Prop} (h : k []) : imL [] k := h
theorem imC {d : Da} {l : List AV} {k : List Da → Prop} (h : imL l fun ds => k (d :: ds)) : imL (.im d :: l) k := h
end
end Al
namespace Kw
def topS (i : Nat) : Stmt := PySem.Challenge.pw_closedroads_k05_whole_webs_changed.main.body.getD i (.Pass ⟨0, 0, 0, 0⟩)
/-- built-in names that the program uses -/
structure Tb (mg : Str → Option Value) : Prop where
  ty : mg "type" = none
  int : mg "int" = none
  str : mg "str" = none
  tup : mg "tuple" = none
  len : mg "len" = none
  enu : mg "enumerate" = none
  srt : mg "sorted" = none
  abs : mg "abs" = none
  rng : mg "range" = none
structure Dd (K : PySem.W.Frag) (mg : Str → Option Value) (nm : Str) (st : Stmt) (ps : List Str) (f : Addr) (fd : FuncData) : Prop where
  F : Fun K nm nm st f fd
  g : mg nm = some (.ref f)
  b : Binds K fd ps []
end Kw
local macro_rules | `(tactic| walk_at "av") => `(tactic| first
  | refine ax_var 0 rfl (by first | exact .inl rfl | exact .inr (.inl rfl) | exact .inr (.inr rfl)) rfl ?_
  | refine ax_var 1 rfl (by first | exact .inl rfl | exact .inr (.inl rfl) | exact .inr (.inr rfl)) rfl ?_
  | refine ax_var 2 rfl (by first | exact .inl rfl | exact .inr (.inl rfl) | exact .inr (.inr rfl)) rfl ?_
  | refine ax_var 3 rfl (by first | exact .inl rfl | exact .inr (.inl rfl) | exact .inr (.inr rfl)) rfl ?_
  | refine ax_var 4 rfl (by first | exact .inl rfl | exact .inr (.inl rfl) | exact .inr (.inr rfl)) rfl ?_
  | refine ax_var 5 rfl (by first | exact .inl rfl | exact .inr (.inl rfl) | exact .inr (.inr rfl)) rfl ?_
  | refine ax_var 6 rfl (by first | exact .inl rfl | exact .inr (.inl rfl) | exact .inr (.inr rfl)) rfl ?_
  | refine ax_var 7 rfl (by first | exact .inl rfl | exact .inr (.inl rfl) | exact .inr (.inr rfl)) rfl ?_
  | refine ax_var 8 rfl (by first | exact .inl rfl | exact .inr (.inl rfl) | exact .inr (.inr rfl)) rfl ?_
  | refine ax_var 9 rfl (by first | exact .inl rfl | exact .inr (.inl rfl) | exact .inr (.inr rfl)) rfl ?_
  | refine ax_var 10 rfl (by first | exact .inl rfl | exact .inr (.inl rfl) | exact .inr (.inr rfl)) rfl ?_
  | refine ax_var 11 rfl (by first | exact .inl rfl | exact .inr (.inl rfl) | exact .inr (.inr rfl)) rfl ?_
  | refine ax_var 12 rfl (by first | exact .inl rfl | exact .inr (.inl rfl) | exact .inr (.inr rfl)) rfl ?_
  | refine ax_var 13 rfl (by first | exact .inl rfl | exact .inr (.inl rfl) | exact .inr (.inr rfl)) rfl ?_
  | refine ax_var 14 rfl (by first | exact .inl rfl | exact .inr (.inl rfl) | exact .inr (.inr rfl)) rfl ?_)
local macro_rules | `(tactic| walk_at "a1") => `(tactic| first
  | with_reducible refine ax_int ?_ | with_reducible refine ax_str ?_ | with_reducible refine ax_bl ?_ | with_reducible refine ax_non ?_
  | walk_at "av"
  | with_reducible refine aa_nil ?_ | refine aa_cons ?_
  | refine ax_add ?_ | refine ax_minus ?_ | refine ax_mul ?_ | refine ax_mod ?_ | refine ax_fdiv ?_ | refine ax_pow ?_ | refine ax_neg ?_
  | refine ax_ix ?_ | refine ax_take ?_
  | refine ax_bint rfl (by assumption) ?_ | refine ax_abs rfl (by assumption) ?_ | refine ax_len rfl (by assumption) ?_
  | refine ax_if ?_ | refine at_lt ?_ | refine at_le ?_ | refine at_gt ?_ | refine at_ge ?_
  | refine aw_at ?_ | refine aw_or ?_ | refine aw_or1 ?_ | refine aw_and ?_ | refine aw_and1 ?_
  | refine ax_tup ?_ | refine al_lst ?_ | refine ax_lst ?_ | refine ax_dic0 ?_ | refine ax_dic1 ?_)
local macro_rules | `(tactic| walk_at "a2") => `(tactic| first
  | with_reducible refine i1 ?_ | with_reducible refine i2 ?_ | with_reducible refine iAdd ?_
  | with_reducible refine iMul (cR (by decide)) ?_ | with_reducible refine iMul (cL (by decide)) ?_
  | with_reducible refine iOp trivial ?_ | with_reducible refine iCmp ?_
  | with_reducible refine oIx rfl rfl ?_ | with_reducible refine lIx rfl ?_
  | with_reducible refine lenS ?_ | with_reducible refine lenT ?_ | with_reducible refine sCmpS ?_ | with_reducible refine lenL ?_ | with_reducible refine eqInt ?_ | with_reducible refine eqStr ?_
  | with_reducible refine tst ?_ | with_reducible refine imN ?_ | with_reducible refine imC ?_
  | with_reducible refine ngS ?_ | refine And.intro (Nat.le_of_ble_eq_true rfl) ?_
  | with_reducible refine lAdd (Nat.le_of_ble_eq_true rfl) ?_ | refine iOp (show CPow _ _ from ⟨by decide, by decide, by decide⟩) ?_)
local macro_rules | `(tactic| walk_at "go") => `(tactic| repeat (first | walk_at "a2" | walk_at "a1"))
namespace Kw
section
variable {ca : Str → Addr} {P : Program} {w : World} {K : PySem.W.Frag} {mg : Str → Option Value} {base : Heap}
abbrev sDip : Stmt := topS 36
theorem scDip : FnScope ["jar", "wide", "digit", "seed"] ["jar", "wide"] (defScope sDip) := ⟨rfl, rfl, rfl, by decide +kernel, rfl, by decide +kernel, by decide +kernel⟩
/-- a number from 0 to w - 1 -/
def fDip : PhJ := fun js ds k kx => ∃ a b c w, js = [.int a, .int b, .int c] ∧ ds = [.int w] ∧ 0 < w ∧ w < 1073741824 ∧ ∀ d a' b' c' : Int, 0 ≤ d → d < w → k (.int d) [.int a', .int b', .int c']
theorem m_dip : ∀ js ds k1 k2 x1 x2, fDip js ds k1 x1 → (∀ d js', k1 d js' → k2 d js') → (∀ c ks es js', x1 c ks es js' → x2 c ks es js') → fDip js ds k2 x2 := by
  rintro js ds k1 k2 x1 x2 ⟨a, b, c, w, h1, h2, h3, h4, h5⟩ h _
  exact ⟨a, b, c, w, h1, h2, h3, h4, fun d a' b' c' h6 h7 => h _ _ (h5 d a' b' c' h6 h7)⟩
theorem ok_dip {f : Addr} {fd : FuncData} (F : Fun K "_law_dip" "_law_dip" sDip f fd) (T : Tb mg) : FnG P w K mg base CX0 1 f fd ["jar", "wide"] (spJ ca K 1 fDip) := by
  have mi := T.int
  refine fnJ F scDip rfl (fun cdv A outer s H E js ds kd gd hr hl hφ => ?_) ?_
  · obtain ⟨a, b, c, w, rfl, rfl, h0, h1, hk⟩ := hφ
    refine ab_cons (as_item ?_)
    walk_at "go"
    refine ⟨_, 0, 2, _, 2, rfl, rfl, rfl, rfl, rfl, ?_⟩
    refine ab_cons (as_if ?_)
    walk_at "go"
    refine ⟨fun _ => ?_, fun _ => ?_⟩
    · refine ab_cons (as_set 2 scDip.nd rfl (.inl rfl) (Nat.le_of_ble_eq_true rfl) ?_)
      walk_at "go"
      refine iOp h0 ?_
      refine ab_cons (as_item ?_)
      walk_at "go"
      refine iOp ⟨h0, h1⟩ ?_
      walk_at "go"
      refine ⟨_, 0, 0, _, 0, rfl, rfl, rfl, rfl, rfl, ?_⟩
      refine ab_one (as_ret ?_)
      walk_at "go"
      exact ⟨_, _, _, rfl, rfl, hk _ _ _ _ (Int.emod_nonneg _ (by omega)) (Int.emod_lt_of_pos _ h0)⟩
    · refine ab_nil ?_
      refine ab_cons (as_set 3 scDip.nd rfl (.inl rfl) (Nat.le_of_ble_eq_true rfl) ?_)
      walk_at "go"
      refine ab_cons (as_item ?_)
      walk_at "go"
      refine iOp (by decide) ?_
      walk_at "go"
      refine ⟨_, 0, 1, _, 1, rfl, rfl, rfl, rfl, rfl, ?_⟩
      refine ab_one (as_ret ?_)
      walk_at "go"
      refine iOp ⟨by decide, by decide⟩ ?_
      walk_at "go"
      refine iOp h0 ?_
      exact ⟨_, _, _, rfl, rfl, hk _ _ _ _ (Int.emod_nonneg _ (by omega)) (Int.emod_lt_of_pos _ h0)⟩
  · exact m_dip
end
end Kw
namespace Kw
abbrev sJar : Stmt := topS 35
theorem scJar : FnScope ["script", "k", "churned", "cell", "own", "digits"] ["script", "k"] (defScope sJar) := ⟨rfl, rfl, rfl, by decide +kernel, rfl, by decide +kernel, by decide +kernel⟩
/-- three numbers -/
def fJar : PhF := fun ds kl => ∃ ns k, ds = [.scr ns, .int (k : Nat)] ∧ k < 64 ∧ ∀ a b c : Int, kl [.int a, .int b, .int c]
theorem m_jar : ∀ ds k1 k2, fJar ds k1 → (∀ d, k1 d → k2 d) → fJar ds k2 := by
  rintro ds k1 k2 ⟨ns, k, h1, h2, h3⟩ h
  exact ⟨ns, k, h1, h2, fun a b c => h _ (h3 a b c)⟩
section
variable {ca : Str → Addr} {P : Program} {w : World} {K : PySem.W.Frag} {mg : Str → Option Value} {base : Heap}
theorem ok_jar {f : Addr} {fd : FuncData} (F : Fun K "_law_jar" "_law_jar" sJar f fd) (T : Tb mg) : FnG P w K mg base CX0 1 f fd ["script", "k"] (spF ca K 2 fJar) := by
  have m1 := T.int
  have m2 := T.abs
  have m3 := T.len
  refine fnF F scJar rfl (fun cdv A outer s H E ds kd gd hr hl hφ => ?_) ?_
  · obtain ⟨ns, k, rfl, hk, hkl⟩ := hφ
    have ck : -(2 ^ 64) < (k : Int) + 2 ∧ (k : Int) + 2 < 2 ^ 64 := by omega
    refine ab_cons (as_set 2 scJar.nd rfl (.inl rfl) (Nat.le_of_ble_eq_true rfl) ?_)
    walk_at "go"
    refine iMul (cR ck) ?_
    walk_at "go"
    refine ab_cons (as_list rfl PassesOwn.never (pg_name (i := 3) scJar.nd rfl (Or.inl rfl)) tg_name ?_)
    walk_at "go"
    refine ⟨4, rfl, .inl ⟨ns, rfl, ?_⟩⟩
    refine ⟨_, .inl rfl, fun i e c => c = [] ∧ ∃ z y, e = [some (.im (.scr ns)), some (.im (.int k)), some (.im (.int z)), y, none, none], ⟨rfl, _, _, rfl⟩, ?_, ?_⟩
    · rintro i d e c hd ⟨rfl, z, y, rfl⟩
      rw [List.getElem?_map] at hd
      obtain ⟨n, hn, ed⟩ := Option.map_eq_some_iff.mp hd
      subst ed
      refine ⟨Nat.le_of_ble_eq_true rfl, ?_⟩
      refine ab_one (as_set 2 scJar.nd rfl (.inl rfl) (Nat.le_of_ble_eq_true rfl) ?_)
      walk_at "go"
      refine iOp (by decide) ?_
      exact ⟨rfl, _, _, rfl⟩
    · rintro e c ⟨rfl, z, y, rfl⟩
      refine ab_cons (as_set 4 scJar.nd rfl (.inl rfl) (Nat.le_of_ble_eq_true rfl) ?_)
      refine ax_to (fun a c => c = [] ∧ ∃ own : Int, a = .im (.int own)) ?_ ?_
      · walk_at "go"
        refine ⟨fun hz => ?_, fun _ => ?_⟩
        · walk_at "go"
          have lt : k < ns.length := by
            have := of_decide_eq_true hz
            omega
          refine sIxS (atI_of rfl (List.getElem?_eq_getElem lt)) ?_
          exact ⟨rfl, _, rfl⟩
        · walk_at "go"
          exact ⟨rfl, _, rfl⟩
      · rintro _ _ ⟨rfl, own, rfl⟩
        refine ab_cons (as_set 5 scJar.nd rfl (.inl rfl) (Nat.le_of_ble_eq_true rfl) ?_)
        refine ax_to (fun a c => c = [] ∧ ∃ d : Int, a = .im (.int d)) ?_ ?_
        · refine ax_if ?_
          refine at_to (fun _ c => c = []) ?_ ?_
          · walk_at "go"
            refine ⟨fun _ => rfl, fun _ => ?_⟩
            walk_at "go"
            rfl
          · rintro b _ rfl
            refine ⟨fun _ => ?_, fun _ => ?_⟩
            · walk_at "go"
              exact ⟨rfl, _, rfl⟩
            · walk_at "go"
              exact ⟨rfl, _, rfl⟩
        · rintro _ _ ⟨rfl, d, rfl⟩
          refine ab_one (as_retL ?_)
          walk_at "go"
          refine iOp (by decide) ?_
          walk_at "go"
          exact ⟨_, _, rfl, rfl, hkl _ _ _⟩
  · exact m_jar
end
end Kw
namespace Kw
abbrev sPick : Stmt := topS 37
theorem scPick : FnScope ["jar", "menu", "at"] ["jar", "menu"] (defScope sPick) := ⟨rfl, rfl, rfl, by decide +kernel, rfl, by decide +kernel, by decide +kernel⟩
/-- one of the things -/
def fPick : PhJ := fun js ds k kx => ∃ (a b c : Int) (l : List Da), js = [.int a, .int b, .int c] ∧ ds = [.lst l] ∧ 0 < l.length ∧ l.length < 1000 ∧ ∀ d ∈ l, ∀ a' b' c' : Int, k d [.int a', .int b', .int c']
theorem m_pick : ∀ js ds k1 k2 x1 x2, fPick js ds k1 x1 → (∀ d js', k1 d js' → k2 d js') → (∀ c ks es js', x1 c ks es js' → x2 c ks es js') → fPick js ds k2 x2 := by
  rintro js ds k1 k2 x1 x2 ⟨a, b, c, l, h1, h2, h3, h4, h5⟩ h _
  exact ⟨a, b, c, l, h1, h2, h3, h4, fun d hd a' b' c' => h _ _ (h5 d hd a' b' c')⟩
section
variable {ca : Str → Addr} {P : Program} {w : World} {K : PySem.W.Frag} {mg : Str → Option Value} {base : Heap}
theorem ok_pick {f f1 : Addr} {fd fd1 : FuncData} (F : Fun K "_law_pick" "_law_pick" sPick f fd) (T : Tb mg) (F1 : Fun K "_law_dip" "_law_dip" sDip f1 fd1) (g1 : mg "_law_dip" = some (.ref f1)) (b1 : Binds K fd1 ["jar", "wide"] []) :
    FnG P w K mg base CX0 2 f fd ["jar", "menu"] (spJ ca K 1 fPick) := by
  have m3 := T.len
  refine fnJ F scPick rfl (fun cdv A outer s H E js ds kd gd hr hl hφ => ?_) m_pick
  obtain ⟨a, b, c, l, rfl, rfl, h0, h1, hk⟩ := hφ
  refine ab_cons (as_set 2 scPick.nd rfl (.inl rfl) (Nat.le_of_ble_eq_true rfl) ?_)
  refine ax_callJ (ok_dip F1 T) gd hr rfl g1 F1.kp b1 ?_ (mono := m_dip)
  walk_at "go"
  refine ⟨0, _, rfl, ?_⟩
  walk_at "go"
  refine ⟨rfl, _, rfl, a, b, c, l.length, rfl, rfl, by omega, by omega, fun d a' b' c' d0 d1 => ?_⟩
  refine ab_one (as_ret ?_)
  walk_at "go"
  obtain ⟨i, rfl⟩ := Int.eq_ofNat_of_zero_le d0
  have lt : i < l.length := by omega
  refine lIx (atI_of rfl (List.getElem?_eq_getElem lt)) ?_
  exact ⟨_, _, _, rfl, rfl, hk _ (List.getElem_mem lt) _ _ _⟩
end
end Kw
namespace Kw
abbrev sPrc : Stmt := topS 40
theorem scPrc : FnScope ["jar", "high"] ["jar"] (defScope sPrc) := ⟨rfl, rfl, rfl, by decide +kernel, rfl, by decide +kernel, by decide +kernel⟩
/-- the numbers of a drawn cost -/
def fPrc : PhJ := fun js ds k kx => ∃ a b c : Int, js = [.int a, .int b, .int c] ∧ ds = [] ∧ ∀ x y a' b' c' : Int, 0 ≤ x → x ≤ 1000000 → 0 ≤ y → y ≤ 1000000 → k (.tup [.int x, .int y]) [.int a', .int b', .int c']
theorem m_prc : ∀ js ds k1 k2 x1 x2, fPrc js ds k1 x1 → (∀ d js', k1 d js' → k2 d js') → (∀ c ks es js', x1 c ks es js' → x2 c ks es js') → fPrc js ds k2 x2 := by
  rintro js ds k1 k2 x1 x2 ⟨a, b, c, h1, h2, h5⟩ h _
  exact ⟨a, b, c, h1, h2, fun x y a' b' c' p q r t => h _ _ (h5 x y a' b' c' p q r t)⟩
section
variable {ca : Str → Addr} {P : Program} {w : World} {K : PySem.W.Frag} {mg : Str → Option Value} {base : Heap}
theorem ok_prc {f f1 f2 : Addr} {fd fd1 fd2 : FuncData} (F : Fun K "_law_price" "_law_price" sPrc f fd) (B : Tb mg) (D1 : Dd K mg "_law_dip" sDip ["jar", "wide"] f1 fd1) (D2 : Dd K mg "_law_pick" sPick ["jar", "menu"] f2 fd2) : FnG P w K mg base CX0 3 f fd ["jar"] (spJ ca K 0 fPrc) := by
  refine fnJ F scPrc rfl (fun cdv A outer s H E js ds kd gd hr hl hφ => ?_) m_prc
  obtain ⟨a, b, c, rfl, rfl, hk⟩ := hφ
  refine ab_cons (as_set 1 scPrc.nd rfl (.inl rfl) (Nat.le_of_ble_eq_true rfl) ?_)
  refine ax_callJ (ok_pick D2.F B D1.F D1.g D1.b) gd hr rfl D2.g D2.F.kp D2.b ?_ (mono := m_pick)
  walk_at "go"
  refine ⟨0, _, rfl, ?_⟩
  walk_at "go"
  refine ⟨rfl, _, rfl, a, b, c, _, rfl, rfl, Nat.le_of_ble_eq_true rfl, Nat.le_of_ble_eq_true rfl, fun d hd a1 b1 c1 => ?_⟩
  obtain ⟨hi, ed, h0, h1⟩ : ∃ hi : Int, d = .int hi ∧ 0 < hi ∧ hi ≤ 1000001 := by
    simp only [List.mem_cons, List.not_mem_nil, or_false] at hd
    rcases hd with e | e | e | e <;> exact ⟨_, e, by decide, by decide⟩
  subst ed
  refine ab_one (as_ret ?_)
  refine ax_tup (aa_cons ?_)
  refine ax_callJ (ok_dip D1.F B) gd (hr.mono (by decide)) rfl D1.g D1.F.kp D1.b ?_ (mono := m_dip)
  walk_at "go"
  refine ⟨0, _, rfl, ?_⟩
  walk_at "go"
  refine ⟨rfl, _, rfl, a1, b1, c1, hi, rfl, rfl, h0, by omega, fun x a2 b2 c2 x0 x1 => ?_⟩
  refine aa_cons ?_
  refine ax_callJ (ok_pick D2.F B D1.F D1.g D1.b) gd hr rfl D2.g D2.F.kp D2.b ?_ (mono := m_pick)
  walk_at "go"
  refine ax_callJ (ok_dip D1.F B) gd (hr.mono (by decide)) rfl D1.g D1.F.kp D1.b ?_ (mono := m_dip)
  walk_at "go"
  refine ⟨0, _, rfl, ?_⟩
  walk_at "go"
  refine ⟨rfl, _, rfl, a2, b2, c2, hi, rfl, rfl, h0, by omega, fun y a3 b3 c3 y0 y1 => ?_⟩
  walk_at "go"
  refine ⟨0, _, rfl, ?_⟩
  walk_at "go"
  refine ⟨rfl, _, rfl, a3, b3, c3, _, rfl, rfl, Nat.le_of_ble_eq_true rfl, Nat.le_of_ble_eq_true rfl, fun d hd a4 b4 c4 => ?_⟩
  obtain ⟨v, ed, v0, v1⟩ : ∃ v : Int, d = .int v ∧ 0 ≤ v ∧ v ≤ 1000000 := by
    simp only [List.mem_cons, List.not_mem_nil, or_false] at hd
    rcases hd with e | e | e | e | e | e
    · exact ⟨_, e, by decide, by decide⟩
    · exact ⟨_, e, by decide, by decide⟩
    · exact ⟨_, e, by decide, by decide⟩
    · exact ⟨_, e, by decide, by decide⟩
    · exact ⟨_, e, by decide, by decide⟩
    · exact ⟨_, e, y0, by omega⟩
  subst ed
  walk_at "go"
  exact ⟨_, _, _, rfl, rfl, hk x v _ _ _ x0 (by omega) v0 v1⟩
end
end Kw
namespace Kw
/-- plain data: of a built-in type, no text too long -/
def pln : Da → Bool
  | .str x => decide (x.length ≤ 16000000)
  | d => (tyOf d).isSome
def wholeB (d : Da) (m : Int) : Bool := match d with
  | .int i => decide (0 ≤ i) && decide (i ≤ m)
  | _ => false
abbrev sWhole : Stmt := topS 21
theorem scWhole : FnScope ["value", "most"] ["value", "most"] (defScope sWhole) := ⟨rfl, rfl, rfl, by decide +kernel, rfl, by decide +kernel, by decide +kernel⟩
def fWhole : Ph := fun ds k kx => ∃ d m, ds = [d, .int m] ∧ (tyOf d).isSome = true ∧ k (.bl (wholeB d m))
theorem m_whole : ∀ ds k1 k2 x1 x2, fWhole ds k1 x1 → (∀ d, k1 d → k2 d) → (∀ c ks es, x1 c ks es → x2 c ks es) → fWhole ds k2 x2 := by
  rintro ds k1 k2 x1 x2 ⟨d, m, h1, h2, h3⟩ h _
  exact ⟨d, m, h1, h2, h _ h3⟩
section
variable {ca : Str → Addr} {P : Program} {w : World} {K : PySem.W.Frag} {mg : Str → Option Value} {base : Heap}
theorem whole_no {d : Da} {n : String} (h : tyOf d = some n) (ne : decide (n = "int") = false) (m : Int) : wholeB d m = false := by
  cases d <;> first | rfl | (cases h; cases ne)
theorem whole_yes {d : Da} {n : String} (h : tyOf d = some n) (ne : decide (n = "int") = true) : ∃ i, d = .int i := by
  cases d <;> first | exact ⟨_, rfl⟩ | (cases h; cases ne) | cases h
theorem ok_whole {f : Addr} {fd : FuncData} (F : Fun K "is_whole" "is_whole" sWhole f fd) (B : Tb mg) : FnG P w K mg base CX0 1 f fd ["value", "most"] (spP ca K 2 fWhole) := by
  refine fnP F scWhole rfl (fun cdv A outer s H E ds kd gd hr hl hφ => ?_) m_whole
  obtain ⟨d, m, rfl, hd, hk⟩ := hφ
  obtain ⟨n, hn⟩ := Option.isSome_iff_exists.mp hd
  refine ab_one (as_ret ?_)
  refine ax_and (ax_is ?_)
  refine ax_type rfl B.ty ?_
  walk_at "go"
  refine ⟨d, n, rfl, hn, ?_⟩
  refine ax_gty (n := "int") rfl B.int (by decide +kernel) ?_
  refine ⟨_, _, rfl, rfl, ?_⟩
  refine ⟨_, rfl, fun hz => ?_, fun hz => ?_⟩
  · obtain ⟨i, rfl⟩ := whole_yes hn hz
    refine ax_one (ax_lele ?_)
    walk_at "go"
    refine ⟨fun h1 => ?_, fun h1 => ?_⟩
    · walk_at "go"
      refine ⟨_, rfl, ?_⟩
      have e : wholeB (.int i) m = (decide (0 ≤ i) && decide (i ≤ m)) := rfl
      rw [e, h1, Bool.true_and] at hk
      exact hk
    · refine ⟨_, rfl, ?_⟩
      have e : wholeB (.int i) m = (decide (0 ≤ i) && decide (i ≤ m)) := rfl
      rw [e, h1, Bool.false_and] at hk
      exact hk
  · rw [whole_no hn hz] at hk
    exact ⟨_, rfl, hk⟩
end
end Kw
namespace Kw
def placeB (d : Da) : Bool := match d with
  | .str x => (x.length : Int) == 1 && (!ltS x "a" && !ltS "z" x)
  | _ => false
theorem pln_ty {d : Da} (h : pln d = true) : (tyOf d).isSome = true := by
  cases d <;> first | rfl | exact h | cases h
abbrev sPlc : Stmt := topS 22
theorem scPlc : FnScope ["value"] ["value"] (defScope sPlc) := ⟨rfl, rfl, rfl, by decide +kernel, rfl, by decide +kernel, by decide +kernel⟩
def fPlc : Ph := fun ds k kx => ∃ d, ds = [d] ∧ pln d = true ∧ k (.bl (placeB d))
theorem m_plc : ∀ ds k1 k2 x1 x2, fPlc ds k1 x1 → (∀ d, k1 d → k2 d) → (∀ c ks es, x1 c ks es → x2 c ks es) → fPlc ds k2 x2 := by
  rintro ds k1 k2 x1 x2 ⟨d, h1, h2, h3⟩ h _
  exact ⟨d, h1, h2, h _ h3⟩
abbrev sCst : Stmt := topS 23
theorem scCst : FnScope ["value"] ["value"] (defScope sCst) := ⟨rfl, rfl, rfl, by decide +kernel, rfl, by decide +kernel, by decide +kernel⟩
def fCst : Ph := fun ds k kx => ∃ d, ds = [d] ∧ (tyOf d).isSome = true ∧ k (.bl (wholeB d 1000000))
theorem m_cst : ∀ ds k1 k2 x1 x2, fCst ds k1 x1 → (∀ d, k1 d → k2 d) → (∀ c ks es, x1 c ks es → x2 c ks es) → fCst ds k2 x2 := by
  rintro ds k1 k2 x1 x2 ⟨d, h1, h2, h3⟩ h _
  exact ⟨d, h1, h2, h _ h3⟩
def ltD (a b : Da) : Bool := match a, b with
  | .str x, .str y => ltS x y
  | _, _ => false
def roadB (d : Da) : Bool := match d with
  | .tup [lo, hi, a, b] => placeB lo && (placeB hi && (ltD lo hi && (wholeB a 1000000 && wholeB b 1000000)))
  | _ => false
abbrev sRd : Stmt := topS 24
theorem scRd : FnScope ["value", "low", "high", "base", "rise"] ["value"] (defScope sRd) := ⟨rfl, rfl, rfl, by decide +kernel, rfl, by decide +kernel, by decide +kernel⟩
def fRd : Ph := fun ds k kx => ∃ d, ds = [d] ∧ pln d = true ∧ (∀ l, d = .tup l → ∀ e ∈ l, pln e = true) ∧ k (.bl (roadB d))
theorem m_rd : ∀ ds k1 k2 x1 x2, fRd ds k1 x1 → (∀ d, k1 d → k2 d) → (∀ c ks es, x1 c ks es → x2 c ks es) → fRd ds k2 x2 := by
  rintro ds k1 k2 x1 x2 ⟨d, h1, h2, h2', h3⟩ h _
  exact ⟨d, h1, h2, h2', h _ h3⟩
theorem str_no {d : Da} {n : String} (h : tyOf d = some n) (ne : decide (n = "str") = false) : placeB d = false := by
  cases d <;> first | rfl | (cases h; cases ne)
theorem str_yes {d : Da} {n : String} (h : tyOf d = some n) (ne : decide (n = "str") = true) : ∃ x, d = .str x := by
  cases d <;> first | exact ⟨_, rfl⟩ | (cases h; cases ne) | cases h
theorem tup_no {d : Da} {n : String} (h : tyOf d = some n) (ne : (!decide (n = "tuple")) = true) : roadB d = false := by
  cases d <;> first | rfl | (cases h; cases ne)
theorem tup_yes {d : Da} {n : String} (h : tyOf d = some n) (ne : (!decide (n = "tuple")) = false) : ∃ l, d = .tup l := by
  cases d <;> first | exact ⟨_, rfl⟩ | (cases h; cases ne) | cases h
theorem four {l : List Da} (h : l.length = 4) : ∃ a b c d, l = [a, b, c, d] := by
  match l, h with
  | [a, b, c, d], _ => exact ⟨a, b, c, d, rfl⟩
theorem road_len {l : List Da} (h : l.length ≠ 4) : roadB (.tup l) = false := by
  match l, h with
  | [], _ => rfl
  | [_], _ => rfl
  | [_, _], _ => rfl
  | [_, _, _], _ => rfl
  | [_, _, _, _], h => exact absurd rfl h
  | _ :: _ :: _ :: _ :: _ :: _, _ => rfl
theorem place_str {d : Da} (h : placeB d = true) : ∃ x, d = .str x := by
  cases d <;> first | exact ⟨_, rfl⟩ | cases h
section
variable {ca : Str → Addr} {P : Program} {w : World} {K : PySem.W.Frag} {mg : Str → Option Value} {base : Heap}
theorem ok_plc {f : Addr} {fd : FuncData} (F : Fun K "is_place" "is_place" sPlc f fd) (B : Tb mg) : FnG P w K mg base CX0 1 f fd ["value"] (spP ca K 1 fPlc) := by
  refine fnP F scPlc rfl (fun cdv A outer s H E ds kd gd hr hl hφ => ?_) m_plc
  obtain ⟨d, rfl, hd, hk⟩ := hφ
  have hu := hr.units
  have ml := B.len
  obtain ⟨n, hn⟩ := Option.isSome_iff_exists.mp (pln_ty hd)
  refine ab_one (as_ret ?_)
  refine ax_and (ax_is ?_)
  refine ax_type rfl B.ty ?_
  walk_at "go"
  refine ⟨d, n, rfl, hn, ?_⟩
  refine ax_gty (n := "str") rfl B.str (by decide +kernel) ?_
  refine ⟨_, _, rfl, rfl, ?_⟩
  refine ⟨_, rfl, fun hz => ?_, fun hz => ?_⟩
  · obtain ⟨x, rfl⟩ := str_yes hn hz
    have hx : x.length ≤ 16000000 := of_decide_eq_true hd
    refine ax_and (ax_eq hu ?_)
    walk_at "go"
    refine ⟨hx, ?_⟩
    walk_at "go"
    refine ⟨fun h1 => ?_, fun h1 => ?_⟩
    · refine ax_one (ax_lele ?_)
      walk_at "go"
      have e : placeB (.str x) = ((x.length : Int) == 1 && (!ltS x "a" && !ltS "z" x)) := rfl
      rw [e, show ((x.length : Int) == 1) = true from h1, Bool.true_and] at hk
      refine ⟨fun h2 => ?_, fun h2 => ?_⟩
      · walk_at "go"
        rw [show (!ltS x "a") = true from h2, Bool.true_and] at hk
        exact ⟨_, rfl, hk⟩
      · rw [show (!ltS x "a") = false from h2, Bool.false_and] at hk
        exact ⟨_, rfl, hk⟩
    · have e : placeB (.str x) = ((x.length : Int) == 1 && (!ltS x "a" && !ltS "z" x)) := rfl
      rw [e, show ((x.length : Int) == 1) = false from h1, Bool.false_and] at hk
      exact ⟨_, rfl, hk⟩
  · rw [str_no hn hz] at hk
    exact ⟨_, rfl, hk⟩
theorem ok_cst {f f1 : Addr} {fd fd1 : FuncData} (F : Fun K "is_cost" "is_cost" sCst f fd) (B : Tb mg) (L : ∃ t, mg "MOST_COST" = some (.int 1000000 t)) (D1 : Dd K mg "is_whole" sWhole ["value", "most"] f1 fd1) : FnG P w K mg base CX0 2 f fd ["value"] (spP ca K 1 fCst) := by
  refine fnP F scCst rfl (fun cdv A outer s H E ds kd gd hr hl hφ => ?_) m_cst
  obtain ⟨d, rfl, hd, hk⟩ := hφ
  obtain ⟨t, g⟩ := L
  refine ab_one (as_ret ?_)
  refine ax_callP (ok_whole D1.F B) gd hr rfl D1.g D1.F.kp D1.b ?_ (mono := m_whole)
  walk_at "go"
  refine ax_gint rfl g ?_
  walk_at "go"
  exact ⟨rfl, d, 1000000, rfl, hd, _, rfl, hk⟩
theorem ok_rd {f f1 f2 f3 : Addr} {fd fd1 fd2 fd3 : FuncData} (F : Fun K "is_road" "is_road" sRd f fd) (B : Tb mg) (L : ∃ t, mg "MOST_COST" = some (.int 1000000 t)) (D1 : Dd K mg "is_whole" sWhole ["value", "most"] f1 fd1) (D2 : Dd K mg "is_place" sPlc ["value"] f2 fd2) (D3 : Dd K mg "is_cost" sCst ["value"] f3 fd3) :
    FnG P w K mg base CX0 3 f fd ["value"] (spP ca K 1 fRd) := by
  refine fnP F scRd rfl (fun cdv A outer s H E ds kd gd hr hl hφ => ?_) m_rd
  obtain ⟨d, rfl, hd, hl2, hk⟩ := hφ
  have hu := hr.units
  have ml := B.len
  obtain ⟨n, hn⟩ := Option.isSome_iff_exists.mp (pln_ty hd)
  refine ab_cons (as_if (aw_at (aw_or (at_isnot ?_))))
  refine ax_type rfl B.ty ?_
  walk_at "go"
  refine ⟨d, n, rfl, hn, ?_⟩
  refine ax_gty (n := "tuple") rfl B.tup (by decide +kernel) ?_
  refine ⟨_, _, rfl, rfl, ?_⟩
  refine ⟨_, rfl, fun hz => ⟨fun _ => ?_, fun h => by cases h⟩, fun hz => ?_⟩
  · rw [tup_no hn hz] at hk
    refine ab_one (as_ret ?_)
    walk_at "go"
    exact ⟨_, rfl, hk⟩
  obtain ⟨l, rfl⟩ := tup_yes hn hz
  have hl4 := hl2 l rfl
  refine aw_or1 (at_ne hu ?_)
  walk_at "go"
  refine ⟨fun h1 => ?_, fun h1 => ?_⟩
  · have ne : l.length ≠ 4 := fun e => by
      rw [e] at h1
      cases h1
    rw [road_len ne] at hk
    refine ab_one (as_ret ?_)
    walk_at "go"
    exact ⟨_, rfl, hk⟩
  refine ab_nil ?_
  have e4 : l.length = 4 := by
    have z : ((l.length : Int) == 4) = true := by simpa using h1
    have := beq_iff_eq.mp z
    omega
  obtain ⟨lo, hi, ba, ri, rfl⟩ := four e4
  have p1 := hl4 lo (by simp)
  have p2 := hl4 hi (by simp)
  have p3 := hl4 ba (by simp)
  have p4 := hl4 ri (by simp)
  refine ab_cons (as_unp (pg_tup rfl (pgs_cons (pg_name (i := 1) scRd.nd rfl (Or.inl rfl)) (pgs_cons (pg_name (i := 2) scRd.nd rfl (Or.inl rfl)) (pgs_cons (pg_name (i := 3) scRd.nd rfl (Or.inl rfl)) (pgs_cons (pg_name (i := 4) scRd.nd rfl (Or.inl rfl)) pgs_nil)))))
    (tg_tup (tgs_cons tg_name (tgs_cons tg_name (tgs_cons tg_name (tgs_cons tg_name tgs_nil))))) ?_)
  walk_at "go"
  refine ⟨_, rfl, _, rfl, rfl, lo, _, rfl, Nat.le_of_ble_eq_true rfl, hi, _, rfl, Nat.le_of_ble_eq_true rfl, ba, _, rfl, Nat.le_of_ble_eq_true rfl, ri, _, rfl, Nat.le_of_ble_eq_true rfl, rfl, ?_⟩
  refine ab_cons (as_if (aw_at (aw_or (at_not (at_tru ?_)))))
  refine ax_callP (ok_plc D2.F B) gd (hr.mono (by decide)) rfl D2.g D2.F.kp D2.b ?_ (mono := m_plc)
  walk_at "go"
  refine ⟨rfl, lo, rfl, p1, ?_⟩
  refine ⟨fun h2 => ⟨fun _ => ?_, fun h => by cases h⟩, fun h2 => ?_⟩
  · have e : roadB (.tup [lo, hi, ba, ri]) = false := by
      rw [roadB, show placeB lo = false by simpa using h2]
      rfl
    rw [e] at hk
    refine ab_one (as_ret ?_)
    walk_at "go"
    exact ⟨_, rfl, hk⟩
  have q1 : placeB lo = true := by simpa using h2
  refine aw_or (at_not (at_tru ?_))
  refine ax_callP (ok_plc D2.F B) gd (hr.mono (by decide)) rfl D2.g D2.F.kp D2.b ?_ (mono := m_plc)
  walk_at "go"
  refine ⟨rfl, hi, rfl, p2, ?_⟩
  refine ⟨fun h3 => ⟨fun _ => ?_, fun h => by cases h⟩, fun h3 => ?_⟩
  · have e : roadB (.tup [lo, hi, ba, ri]) = false := by
      rw [roadB, q1, show placeB hi = false by simpa using h3]
      rfl
    rw [e] at hk
    refine ab_one (as_ret ?_)
    walk_at "go"
    exact ⟨_, rfl, hk⟩
  have q2 : placeB hi = true := by simpa using h3
  obtain ⟨x, rfl⟩ := place_str q1
  obtain ⟨y, rfl⟩ := place_str q2
  refine aw_or1 ?_
  walk_at "go"
  refine ⟨fun h4 => ?_, fun h4 => ?_⟩
  · have e : roadB (.tup [.str x, .str y, ba, ri]) = false := by
      rw [roadB, q1, q2, show ltD (.str x) (.str y) = false by simpa [ltD] using h4]
      rfl
    rw [e] at hk
    refine ab_one (as_ret ?_)
    walk_at "go"
    exact ⟨_, rfl, hk⟩
  have q3 : ltD (.str x) (.str y) = true := by simpa [ltD] using h4
  have e : roadB (.tup [.str x, .str y, ba, ri]) = (wholeB ba 1000000 && wholeB ri 1000000) := by
    rw [roadB, q1, q2, q3]
    rfl
  rw [e] at hk
  refine ab_nil ?_
  refine ab_one (as_ret ?_)
  refine ax_and ?_
  refine ax_callP (ok_cst D3.F B L D1) gd (hr.mono (by decide)) rfl D3.g D3.F.kp D3.b ?_ (mono := m_cst)
  walk_at "go"
  refine ⟨rfl, ba, rfl, pln_ty p3, ?_⟩
  refine ⟨_, rfl, fun h5 => ?_, fun h5 => ?_⟩
  · refine ax_one ?_
    refine ax_callP (ok_cst D3.F B L D1) gd (hr.mono (by decide)) rfl D3.g D3.F.kp D3.b ?_ (mono := m_cst)
    walk_at "go"
    refine ⟨rfl, ri, rfl, pln_ty p4, ?_⟩
    rw [h5, Bool.true_and] at hk
    exact ⟨_, rfl, hk⟩
  · rw [h5, Bool.false_and] at hk
    exact ⟨_, rfl, hk⟩
end
end Kw
namespace Kw
/-- a road as data: two signs, two numbers -/
structure Rd where
  lo : Nat
  hi : Nat
  a : Da
  b : Da
def sgn (u : Nat) : Da := .str ⟨#[u]⟩
def rdD (r : Rd) : Da := .tup [sgn r.lo, sgn r.hi, r.a, r.b]
def farR (r : Rd) (u : Nat) : Nat := if u = r.lo then r.hi else r.lo
/-- the ways from u to t that meet no place of z, each behind b -/
def rts (R : List Rd) (t : Nat) : Nat → Nat → List Nat → List Nat → List (List Nat)
  | 0, _, _, _ => []
  | n + 1, u, z, b => if u = t then [b] else (List.range R.length).flatMap fun i => match R[i]? with
    | some r => if (u = r.lo ∨ u = r.hi) ∧ farR r u ∉ z then rts R t n (farR r u) (z ++ [farR r u]) (b ++ [i]) else []
    | none => []
def ends (R : List Rd) : List Nat := R.flatMap fun r => [r.lo, r.hi]
def meas (R : List Rd) (z : List Nat) : Nat := (ends R).countP fun x => decide (x ∉ z)
theorem count_lt {p q : Nat → Bool} : ∀ {l : List Nat}, (∀ x, p x = true → q x = true) → (∃ x ∈ l, q x = true ∧ p x = false) → l.countP p < l.countP q
  | [], _, ⟨x, h, _⟩ => nomatch h
  | y :: l, h, ⟨x, m, h1, h2⟩ => by
    have le : l.countP p ≤ l.countP q := List.countP_mono_left fun z _ => h z
    rw [List.countP_cons, List.countP_cons]
    rcases List.mem_cons.mp m with e | m
    · subst e
      rw [h1, h2, if_pos rfl, if_neg Bool.false_ne_true]
      omega
    · have ih := count_lt (l := l) h ⟨x, m, h1, h2⟩
      by_cases c : p y = true
      · rw [if_pos c, if_pos (h y c)]
        omega
      · rw [if_neg c]
        omega
theorem meas_lt {R : List Rd} {z : List Nat} {r : Rd} {i u : Nat} (hr : R[i]? = some r) (hv : farR r u ∉ z) : meas R (z ++ [farR r u]) < meas R z := by
  refine count_lt (fun x hx => ?_) ⟨farR r u, ?_, by simpa using hv, by simp⟩
  · have hx' := of_decide_eq_true hx
    exact decide_eq_true fun h => hx' (List.mem_append_left _ h)
  · refine List.mem_flatMap.mpr ⟨r, List.mem_of_getElem? hr, ?_⟩
    unfold farR
    split <;> simp
def wayD (w : List Nat) : Da := .tup (w.map fun i : Nat => Da.int (i : Int))
def zS (z : List Nat) : Str := ⟨z.toArray⟩
def fRo (n : Nat) : Ph := fun ds k kx => ∃ R t u z b, ds = [sgn u, sgn t, .tup (R.map rdD), .str (zS z), wayD b] ∧ meas R z < n ∧ z.length + n ≤ 1000 ∧ b.length + n ≤ 1000 ∧ (rts R t n u z b).length ≤ 16000000 ∧ k (.lst ((rts R t n u z b).map wayD))
theorem m_ro (n : Nat) : ∀ ds k1 k2 x1 x2, fRo n ds k1 x1 → (∀ d, k1 d → k2 d) → (∀ c ks es, x1 c ks es → x2 c ks es) → fRo n ds k2 x2 := by
  rintro ds k1 k2 x1 x2 ⟨R, t, u, z, b, h1, h2, h3, h4, h5, h6⟩ h _
  exact ⟨R, t, u, z, b, h1, h2, h3, h4, h5, h _ h6⟩
abbrev sRo : Stmt := topS 17
theorem scRo : FnScope ["place", "goal", "roads", "met", "begun", "found", "index", "road", "other"] ["place", "goal", "roads", "met", "begun"] (defScope sRo) := ⟨rfl, rfl, rfl, by decide +kernel, rfl, by decide +kernel, by decide +kernel⟩
def stp (R : List Rd) (t n u : Nat) (z b : List Nat) (i : Nat) : List (List Nat) := match R[i]? with
    | some r => if (u = r.lo ∨ u = r.hi) ∧ farR r u ∉ z then rts R t n (farR r u) (z ++ [farR r u]) (b ++ [i]) else []
    | none => []
theorem rts_eq {R : List Rd} {t n u : Nat} {z b : List Nat} (h : u ≠ t) : rts R t (n + 1) u z b = (List.range R.length).flatMap (stp R t n u z b) := by
  rw [rts, if_neg h]
  rfl
theorem range_snoc {f : Nat → List (List Nat)} {i : Nat} : (List.range (i + 1)).flatMap f = (List.range i).flatMap f ++ f i := by
  rw [List.range_succ, List.flatMap_append]
  simp
theorem part_le {f : Nat → List (List Nat)} : ∀ {n i : Nat}, i ≤ n → ((List.range i).flatMap f).length ≤ ((List.range n).flatMap f).length
  | 0, i, h => by
    have : i = 0 := by omega
    subst this
    exact Nat.le_refl _
  | n + 1, i, h => by
    by_cases c : i = n + 1
    · subst c
      exact Nat.le_refl _
    · rw [range_snoc, List.length_append]
      have := part_le (f := f) (n := n) (i := i) (by omega)
      omega
theorem sgn_eq {u t : Nat} : decide ((⟨#[u]⟩ : Str) = ⟨#[t]⟩) = decide (u = t) := by
  by_cases h : u = t
  · subst h
    rw [decide_eq_true rfl, decide_eq_true rfl]
  · rw [decide_eq_false h, decide_eq_false]
    intro e
    have e2 := congrArg Str.cps e
    simp at e2
    exact h e2
theorem inR {lo hi u : Nat} : (([⟨#[lo]⟩, ⟨#[hi]⟩] : List Str).any fun j => j == ⟨#[u]⟩) = decide (u = lo ∨ u = hi) := by
  have one : ∀ a : Nat, ((⟨#[a]⟩ : Str) == ⟨#[u]⟩) = decide (u = a) := by
    intro a
    by_cases h : u = a
    · subst h
      rw [decide_eq_true rfl]
      exact beq_self_eq_true _
    · rw [decide_eq_false h]
      refine beq_eq_false_iff_ne.mpr fun e => ?_
      have e2 := congrArg Str.cps e
      simp at e2
      exact h e2.symm
  rw [List.any_cons, List.any_cons, List.any_nil, one, one, Bool.or_false]
  by_cases h1 : u = lo
  · simp [h1]
  · simp [h1]
theorem zS_snoc {z : List Nat} {v : Nat} : zS z ++ (⟨#[v]⟩ : Str) = zS (z ++ [v]) := by
  show (⟨z.toArray ++ #[v]⟩ : Str) = ⟨(z ++ [v]).toArray⟩
  simp
theorem way_snoc {b : List Nat} {i : Nat} : (b.map fun i : Nat => Da.int (i : Int)) ++ [Da.int (i : Int)] = (b ++ [i]).map fun i : Nat => Da.int (i : Int) := by
  rw [List.map_append]
  rfl
theorem tIx {cs : Cells} {k : KE} {i : Int} {ds : List Da} {d : Da} (ha : atI ds i = some d) (h : k (.im d) cs) : sIx (.im (.tup ds)) (.im (.int i)) cs k := ⟨d, ha, h⟩
abbrev sOe : Stmt := topS 19
theorem scOe : FnScope ["road", "place"] ["road", "place"] (defScope sOe) := ⟨rfl, rfl, rfl, by decide +kernel, rfl, by decide +kernel, by decide +kernel⟩
/-- the other end of a road -/
def fOe : Ph := fun ds k kx => ∃ r u, ds = [rdD r, sgn u] ∧ k (sgn (farR r u))
theorem m_oe : ∀ ds k1 k2 x1 x2, fOe ds k1 x1 → (∀ d, k1 d → k2 d) → (∀ c ks es, x1 c ks es → x2 c ks es) → fOe ds k2 x2 := by
  rintro ds k1 k2 x1 x2 ⟨r, u, h1, h2⟩ h _
  exact ⟨r, u, h1, h _ h2⟩
section
variable {ca : Str → Addr} {P : Program} {w : World} {K : PySem.W.Frag} {mg : Str → Option Value} {base : Heap}
theorem ok_oe {f : Addr} {fd : FuncData} (D : Dd K mg "other_end" sOe ["road", "place"] f fd) (B : Tb mg) : FnG P w K mg base CX0 1 f fd ["road", "place"] (spP ca K 2 fOe) := by
  refine fnP D.F scOe rfl (fun cdv A outer s H E ds kd gd hr hl hφ => ?_) m_oe
  obtain ⟨r, u, rfl, hk⟩ := hφ
  have hu := hr.units
  refine ab_one (as_ret (ax_if (at_eq hu ?_)))
  walk_at "av"
  refine ax_ix ?_
  walk_at "av"
  refine ax_int ?_
  refine tIx rfl ?_
  refine eqStr ?_
  refine ⟨_, rfl, fun h3 => ?_, fun h3 => ?_⟩
  · have e : u = r.lo := by
      have z1 : decide ((⟨#[u]⟩ : Str) = ⟨#[r.lo]⟩) = true := h3
      rw [sgn_eq] at z1
      exact of_decide_eq_true z1
    refine ax_ix ?_
    walk_at "av"
    refine ax_int ?_
    refine tIx rfl ?_
    exact ⟨_, rfl, by rw [farR, if_pos e] at hk; exact hk⟩
  · have e : u ≠ r.lo := by
      have z1 : decide ((⟨#[u]⟩ : Str) = ⟨#[r.lo]⟩) = false := h3
      rw [sgn_eq] at z1
      exact of_decide_eq_false z1
    refine ax_ix ?_
    walk_at "av"
    refine ax_int ?_
    refine tIx rfl ?_
    exact ⟨_, rfl, by rw [farR, if_neg e] at hk; exact hk⟩
end
section
variable {ca : Str → Addr} {P : Program} {w : World} {K : PySem.W.Frag} {mg : Str → Option Value} {base : Heap}
theorem ok_ro {f : Addr} {fd : FuncData} {f2 : Addr} {fd2 : FuncData} (D : Dd K mg "routes_on" sRo ["place", "goal", "roads", "met", "begun"] f fd) (DO : Dd K mg "other_end" sOe ["road", "place"] f2 fd2) (B : Tb mg) : ∀ n : Nat, FnG P w K mg base CX0 (n + 2) f fd ["place", "goal", "roads", "met", "begun"] (spP ca K 5 (fRo n))
  | 0 => by
    refine fnP D.F scRo rfl (fun cdv A outer s H E ds kd gd hr hl hφ => ?_) (m_ro 0)
    obtain ⟨R, t, u, z, b, _, h, _⟩ := hφ
    exact absurd h (Nat.not_lt_zero _)
  | n + 1 => by
    have ih := ok_ro D DO B n
    refine fnP D.F scRo rfl (fun cdv A outer s H E ds kd gd hr hl hφ => ?_) (m_ro (n + 1))
    obtain ⟨R, t, u, z, b, rfl, hm, hz, hb, hlen, hk⟩ := hφ
    have hu := hr.units
    refine ab_cons (as_if (at_eq hu ?_))
    walk_at "av"
    walk_at "av"
    refine eqStr ?_
    refine ⟨_, rfl, fun h1 => ?_, fun h1 => ?_⟩
    · have e : u = t := by
        have z1 : decide ((⟨#[u]⟩ : Str) = ⟨#[t]⟩) = true := h1
        rw [sgn_eq] at z1
        exact of_decide_eq_true z1
      rw [rts, if_pos e] at hk
      refine ab_one (as_ret (ax_lst (aa_cons ?_)))
      walk_at "av"
      refine aa_nil ?_
      exact ⟨by simp, _, rfl, hk⟩
    have ne : u ≠ t := by
      have z1 : decide ((⟨#[u]⟩ : Str) = ⟨#[t]⟩) = false := h1
      rw [sgn_eq] at z1
      exact of_decide_eq_false z1
    rw [rts_eq ne] at hk hlen
    refine ab_nil ?_
    refine ab_cons (as_cell 5 scRo.nd rfl (.inl rfl) (Nat.le_of_ble_eq_true rfl) ?_)
    refine al_lst (aa_nil ?_)
    refine ⟨Nat.le_of_ble_eq_true rfl, ?_⟩
    refine ab_cons (as_enT rfl PassesOwn.never rfl B.enu (pg_tup rfl (pgs_cons (pg_name (i := 6) scRo.nd rfl (Or.inl rfl)) (pgs_cons (pg_name (i := 7) scRo.nd rfl (Or.inl rfl)) pgs_nil))) (tg_tup (tgs_cons tg_name (tgs_cons tg_name tgs_nil))) ?_)
    walk_at "av"
    refine ⟨_, rfl, fun i e c => c = [some (((List.range i).flatMap (stp R t n u z b)).map wayD)] ∧ ∃ y6 y7 y8, e = [some (.im (sgn u)), some (.im (sgn t)), some (.im (.tup (R.map rdD))), some (.im (.str (zS z))), some (.im (wayD b)), some (.ow 0), y6, y7, y8], ⟨rfl, _, _, _, rfl⟩, ?_, ?_⟩
    · rintro i d e c hd ⟨rfl, y6, y7, y8, rfl⟩
      rw [List.getElem?_map] at hd
      obtain ⟨r, er, ed⟩ := Option.map_eq_some_iff.mp hd
      subst ed
      have lt := (List.getElem?_eq_some_iff.mp er).1
      refine ⟨_, rfl, rfl, _, _, rfl, ⟨Nat.le_of_ble_eq_true rfl, _, _, rfl, ⟨Nat.le_of_ble_eq_true rfl, rfl, ?_⟩⟩⟩
      have pl := part_le (f := stp R t n u z b) (n := R.length) (i := i + 1) lt
      rw [range_snoc, List.length_append] at pl
      refine ab_one (as_if (at_inT ?_))
      walk_at "av"
      refine ax_takeT ?_
      walk_at "av"
      refine ax_int ?_
      refine ⟨2, _, rfl, rfl, Nat.le_of_ble_eq_true rfl, ?_⟩
      refine ⟨⟨#[u]⟩, [⟨#[r.lo]⟩, ⟨#[r.hi]⟩], rfl, .inr rfl, ?_⟩
      rw [inR]
      refine ⟨_, rfl, fun h2 => ?_, fun h2 => ?_⟩
      · have h2' : u = r.lo ∨ u = r.hi := of_decide_eq_true h2
        refine ab_cons (as_set 8 scRo.nd rfl (.inl rfl) (Nat.le_of_ble_eq_true rfl) ?_)
        refine ax_callP (ok_oe DO B) gd (hr.mono (by omega)) rfl DO.g DO.F.kp DO.b ?_ (mono := m_oe)
        refine aa_cons ?_
        walk_at "av"
        refine aa_cons ?_
        walk_at "av"
        refine aa_nil ?_
        refine ⟨rfl, r, u, rfl, ?_⟩
        refine ab_one (as_if (at_ninS ?_))
        walk_at "av"
        walk_at "av"
        refine ⟨farR r u, zS z, rfl, rfl, ?_⟩
        refine ⟨_, rfl, fun h4 => ?_, fun h4 => ?_⟩
        · have hv : farR r u ∉ z := by
            have z1 : (!decide (farR r u ∈ z)) = true := h4
            intro q
            rw [decide_eq_true q] at z1
            cases z1
          have es : stp R t n u z b i = rts R t n (farR r u) (z ++ [farR r u]) (b ++ [i]) := by
            unfold stp
            rw [er]
            dsimp only
            rw [if_pos ⟨h2', hv⟩]
          rw [es] at pl
          have ml := meas_lt (i := i) er hv
          refine ab_one (as_expr (ax_extend ?_))
          walk_at "av"
          refine ⟨0, _, rfl, rfl, ?_⟩
          refine ax_callP ih gd hr rfl D.g D.F.kp D.b ?_ (mono := m_ro n)
          refine aa_cons ?_
          walk_at "av"
          refine aa_cons ?_
          walk_at "av"
          refine aa_cons ?_
          walk_at "av"
          refine aa_cons (ax_add ?_)
          walk_at "av"
          walk_at "av"
          refine ⟨by show z.toArray.size + 1 ≤ 16000000; rw [List.size_toArray]; omega, ?_⟩
          refine aa_cons (ax_add ?_)
          walk_at "av"
          refine ax_tup (aa_cons ?_)
          walk_at "av"
          refine aa_nil ?_
          refine ⟨by simp, ?_⟩
          refine ⟨by rw [List.length_map]; simp only [List.length_singleton]; omega, ?_⟩
          refine aa_nil ?_
          refine ⟨rfl, R, t, farR r u, z ++ [farR r u], b ++ [i], ?_, by omega, by rw [List.length_append, List.length_singleton]; omega, by rw [List.length_append, List.length_singleton]; omega, by omega, ?_⟩
          · rw [zS_snoc, way_snoc]
            rfl
          refine ⟨_, _, rfl, rfl, by rw [List.length_map, List.length_map]; omega, ?_⟩
          refine ⟨?_, _, _, _, rfl⟩
          rw [range_snoc, es, List.map_append]
          rfl
        · have hv : farR r u ∈ z := by
            have z1 : (!decide (farR r u ∈ z)) = false := h4
            by_cases q : farR r u ∈ z
            · exact q
            · rw [decide_eq_false q] at z1
              cases z1
          have es : stp R t n u z b i = [] := by
            unfold stp
            rw [er]
            dsimp only
            rw [if_neg fun q => q.2 hv]
          refine ab_nil ⟨?_, _, _, _, rfl⟩
          rw [range_snoc, es, List.append_nil]
      · have h2' : ¬ (u = r.lo ∨ u = r.hi) := of_decide_eq_false h2
        have es : stp R t n u z b i = [] := by
          unfold stp
          rw [er]
          dsimp only
          rw [if_neg fun q => h2' q.1]
        refine ab_nil ⟨?_, _, _, _, rfl⟩
        rw [range_snoc, es, List.append_nil]
    · rintro e c ⟨rfl, y6, y7, y8, rfl⟩
      rw [List.length_map]
      refine ab_frz 0 _ rfl ?_
      refine ab_one (as_ret ?_)
      walk_at "av"
      exact ⟨_, rfl, hk⟩
end
end Kw
namespace Kw
def prs (R : List Rd) : List (Nat × Nat) := R.map fun r => (r.lo, r.hi)
theorem flat_congr {f g : Nat → List (List Nat)} : ∀ {l : List Nat}, (∀ i ∈ l, f i = g i) → l.flatMap f = l.flatMap g
  | [], _ => rfl
  | i :: l, h => by
    rw [List.flatMap_cons, List.flatMap_cons, h i (List.mem_cons_self ..), flat_congr fun j hj => h j (List.mem_cons_of_mem _ hj)]
/-- the ways that the program finds are those of the mathematics -/
theorem rts_dfs {R : List Rd} {t : Nat} : ∀ (n u : Nat) (z z' b : List Nat), (∀ x, x ∈ z ↔ x ∈ z') → rts R t n u z b = Wb.dfs (prs R) t n u z' b
  | 0, u, z, z', b, h => by
    rw [rts, Wb.dfs]
  | n + 1, u, z, z', b, h => by
    rw [rts, Wb.dfs]
    by_cases e : u = t
    · rw [if_pos e, if_pos e]
    · rw [if_neg e, if_neg e]
      have len : (prs R).length = R.length := List.length_map ..
      rw [len]
      refine flat_congr fun i _ => ?_
      have at_ : (prs R)[i]? = R[i]?.map fun r => (r.lo, r.hi) := List.getElem?_map ..
      rw [at_]
      cases q : R[i]? with
      | none => rfl
      | some r =>
        have ef : Wb.far (r.lo, r.hi) u = farR r u := rfl
        show (if (u = r.lo ∨ u = r.hi) ∧ farR r u ∉ z then _ else _) = if (u = r.lo ∨ u = r.hi) ∧ Wb.far (r.lo, r.hi) u ∉ z' then _ else _
        rw [ef]
        by_cases c : (u = r.lo ∨ u = r.hi) ∧ farR r u ∉ z
        · have c' : (u = r.lo ∨ u = r.hi) ∧ farR r u ∉ z' := ⟨c.1, fun m => c.2 ((h _).mpr m)⟩
          rw [if_pos c, if_pos c']
          refine rts_dfs n _ _ _ _ fun x => ?_
          rw [List.mem_append, List.mem_singleton, List.mem_cons, h x]
          exact Or.comm
        · have c' : ¬ ((u = r.lo ∨ u = r.hi) ∧ farR r u ∉ z') := fun q => c ⟨q.1, fun m => q.2 ((h _).mp m)⟩
          rw [if_neg c, if_neg c']
/-- at most so many places are met: fuel enough gives the same -/
theorem meas_le {R : List Rd} {z : List Nat} : meas R z ≤ 2 * R.length := by
  have e : (ends R).length = 2 * R.length := by
    unfold ends
    induction R with
    | nil => rfl
    | cons r R ih =>
      rw [List.flatMap_cons, List.length_append, ih, List.length_cons]
      simp only [List.length_cons, List.length_nil]
      omega
  rw [← e]
  exact List.countP_le_length
/-! ### how many ways there are -/
/-- roads whose ends have not both been met -/
def open_ (R : List Rd) (z : List Nat) : Nat := R.countP fun r => !(z.contains r.lo && z.contains r.hi)
def most : Nat → Nat
  | 0 => 1
  | n + 1 => 1 + (n + 1) * most n
theorem most_mono : ∀ {m n : Nat}, m ≤ n → most m ≤ most n
  | m, 0, h => by
    have : m = 0 := by omega
    subst this
    exact Nat.le_refl _
  | m, n + 1, h => by
    by_cases c : m = n + 1
    · subst c
      exact Nat.le_refl _
    · have ih := most_mono (m := m) (n := n) (by omega)
      have : most n ≤ (n + 1) * most n := Nat.le_mul_of_pos_left _ (Nat.succ_pos _)
      show most m ≤ 1 + (n + 1) * most n
      omega
theorem most8 : most 8 = 109601 := by decide
theorem most_pos (n : Nat) : 1 ≤ most n := by
  cases n with
  | zero => exact Nat.le_refl _
  | succ n =>
    show 1 ≤ 1 + (n + 1) * most n
    omega
theorem flat_len {f : Nat → List (List Nat)} {p : Nat → Bool} {M : Nat} : ∀ {l : List Nat}, (∀ i ∈ l, (f i).length ≤ if p i = true then M else 0) → (l.flatMap f).length ≤ l.countP p * M
  | [], _ => Nat.zero_le _
  | i :: l, h => by
    have ih := flat_len (f := f) (p := p) (M := M) (l := l) fun j hj => h j (List.mem_cons_of_mem _ hj)
    have h1 := h i (List.mem_cons_self ..)
    rw [List.flatMap_cons, List.length_append, List.countP_cons]
    by_cases c : p i = true
    · rw [if_pos c] at h1 ⊢
      rw [Nat.add_mul, Nat.one_mul]
      omega
    · rw [if_neg c] at h1 ⊢
      rw [Nat.add_zero]
      omega
theorem count_range {q : Rd → Bool} : ∀ R : List Rd, (List.range R.length).countP (fun i => (R[i]?).any q) = R.countP q
  | [] => rfl
  | r :: R => by
    have ih := count_range (q := q) R
    rw [List.length_cons, List.range_succ_eq_map, List.countP_cons, List.countP_map, List.countP_cons, ← ih]
    rfl
theorem open_lt {R : List Rd} {z : List Nat} {r : Rd} {i u : Nat} (hr : R[i]? = some r) (hu : u ∈ z) (hc : u = r.lo ∨ u = r.hi) (hv : farR r u ∉ z) : open_ R (z ++ [farR r u]) < open_ R z := by
  have two : ∀ {l : List Rd}, r ∈ l → l.countP (fun x => !((z ++ [farR r u]).contains x.lo && (z ++ [farR r u]).contains x.hi)) < l.countP (fun x => !(z.contains x.lo && z.contains x.hi)) := by
    have imp : ∀ x : Rd, (!((z ++ [farR r u]).contains x.lo && (z ++ [farR r u]).contains x.hi)) = true → (!(z.contains x.lo && z.contains x.hi)) = true := by
      intro x hx
      rw [Bool.not_eq_true', Bool.and_eq_false_iff] at hx ⊢
      rcases hx with h | h
      · left
        refine Bool.eq_false_iff.mpr fun q => ?_
        have m := List.contains_iff_mem.mp q
        rw [List.contains_iff_mem.mpr (List.mem_append_left _ m)] at h
        cases h
      · right
        refine Bool.eq_false_iff.mpr fun q => ?_
        have m := List.contains_iff_mem.mp q
        rw [List.contains_iff_mem.mpr (List.mem_append_left _ m)] at h
        cases h
    have nowr : (!((z ++ [farR r u]).contains r.lo && (z ++ [farR r u]).contains r.hi)) = false := by
      have both : r.lo ∈ z ++ [farR r u] ∧ r.hi ∈ z ++ [farR r u] := by
        unfold farR
        by_cases e : u = r.lo
        · rw [if_pos e]
          exact ⟨List.mem_append_left _ (by rw [← e]; exact hu), List.mem_append_right _ (List.mem_singleton.mpr rfl)⟩
        · rw [if_neg e]
          exact ⟨List.mem_append_right _ (List.mem_singleton.mpr rfl), List.mem_append_left _ (by rw [← hc.resolve_left e]; exact hu)⟩
      rw [List.contains_iff_mem.mpr both.1, List.contains_iff_mem.mpr both.2]
      rfl
    have befr : (!(z.contains r.lo && z.contains r.hi)) = true := by
      rw [Bool.not_eq_true', Bool.and_eq_false_iff]
      unfold farR at hv
      by_cases e : u = r.lo
      · rw [if_pos e] at hv
        exact .inr (Bool.eq_false_iff.mpr fun q => hv (List.contains_iff_mem.mp q))
      · rw [if_neg e] at hv
        exact .inl (Bool.eq_false_iff.mpr fun q => hv (List.contains_iff_mem.mp q))
    intro l
    induction l with
    | nil => intro m; cases m
    | cons x l ih =>
      intro m
      have le : l.countP (fun x => !((z ++ [farR r u]).contains x.lo && (z ++ [farR r u]).contains x.hi)) ≤ l.countP (fun x => !(z.contains x.lo && z.contains x.hi)) := List.countP_mono_left fun y _ => imp y
      rw [List.countP_cons, List.countP_cons]
      rcases List.mem_cons.mp m with e | m
      · subst e
        rw [nowr, befr, if_pos rfl, if_neg Bool.false_ne_true]
        omega
      · have := ih m
        by_cases c : (!((z ++ [farR r u]).contains x.lo && (z ++ [farR r u]).contains x.hi)) = true
        · rw [if_pos c, if_pos (imp x c)]
          omega
        · rw [if_neg c]
          omega
  exact two (List.mem_of_getElem? hr)
theorem rts_len {R : List Rd} {t : Nat} : ∀ (n u : Nat) (z b : List Nat), u ∈ z → (rts R t n u z b).length ≤ most (open_ R z)
  | 0, u, z, b, _ => by
    rw [rts]
    exact Nat.zero_le _
  | n + 1, u, z, b, hu => by
    by_cases e : u = t
    · rw [rts, if_pos e]
      exact most_pos _
    · rw [rts_eq e]
      have step : ∀ i ∈ List.range R.length, (stp R t n u z b i).length ≤ if ((R[i]?).any fun r => !(z.contains r.lo && z.contains r.hi)) = true then most (open_ R z - 1) else 0 := by
        intro i _
        unfold stp
        cases q : R[i]? with
        | none => exact Nat.zero_le _
        | some r =>
          dsimp only
          by_cases c : (u = r.lo ∨ u = r.hi) ∧ farR r u ∉ z
          · rw [if_pos c]
            have lt := open_lt q hu c.1 c.2
            have ih := rts_len (R := R) (t := t) n (farR r u) (z ++ [farR r u]) (b ++ [i]) (List.mem_append_right _ (List.mem_singleton.mpr rfl))
            have cond : ((some r).any fun r => !(z.contains r.lo && z.contains r.hi)) = true := by
              show (!(z.contains r.lo && z.contains r.hi)) = true
              rw [Bool.not_eq_true', Bool.and_eq_false_iff]
              have hv := c.2
              unfold farR at hv
              by_cases e : u = r.lo
              · rw [if_pos e] at hv
                exact .inr (Bool.eq_false_iff.mpr fun q => hv (List.contains_iff_mem.mp q))
              · rw [if_neg e] at hv
                exact .inl (Bool.eq_false_iff.mpr fun q => hv (List.contains_iff_mem.mp q))
            rw [if_pos cond]
            exact Nat.le_trans ih (most_mono (by omega))
          · rw [if_neg c]
            exact Nat.zero_le _
      have fl := flat_len step
      rw [count_range] at fl
      have eo : R.countP (fun r => !(z.contains r.lo && z.contains r.hi)) = open_ R z := rfl
      rw [eo] at fl
      refine Nat.le_trans fl ?_
      cases o : open_ R z with
      | zero =>
        rw [Nat.zero_mul]
        exact Nat.zero_le _
      | succ m =>
        show (m + 1) * most (m + 1 - 1) ≤ 1 + (m + 1) * most m
        rw [Nat.add_sub_cancel]
        omega
/-- over at most eight roads there are at most 109601 ways -/
theorem rts_8 {R : List Rd} {t n u : Nat} {b : List Nat} (h : R.length ≤ 8) : (rts R t n u [u] b).length ≤ 109601 := by
  have z := rts_len (R := R) (t := t) n u [u] b (List.mem_singleton.mpr rfl)
  have o : open_ R [u] ≤ 8 := Nat.le_trans List.countP_le_length h
  exact Nat.le_trans z (Nat.le_trans (most_mono o) (Nat.le_of_eq most8))
end Kw
namespace Kw
abbrev sRts : Stmt := topS 16
theorem scRts : FnScope ["origin", "goal", "roads"] ["origin", "goal", "roads"] (defScope sRts) := ⟨rfl, rfl, rfl, by decide +kernel, rfl, by decide +kernel, by decide +kernel⟩
/-- all ways over at most eight roads -/
def allW (R : List Rd) (s t : Nat) : List (List Nat) := rts R t 17 s [s] []
def fRts : Ph := fun ds k kx => ∃ R s t, ds = [sgn s, sgn t, .tup (R.map rdD)] ∧ R.length ≤ 8 ∧ k (.tup ((allW R s t).map wayD))
theorem m_rts : ∀ ds k1 k2 x1 x2, fRts ds k1 x1 → (∀ d, k1 d → k2 d) → (∀ c ks es, x1 c ks es → x2 c ks es) → fRts ds k2 x2 := by
  rintro ds k1 k2 x1 x2 ⟨R, s, t, h1, h2, h4⟩ h _
  exact ⟨R, s, t, h1, h2, h _ h4⟩
section
variable {ca : Str → Addr} {P : Program} {w : World} {K : PySem.W.Frag} {mg : Str → Option Value} {base : Heap}
theorem ok_rts {f f1 f2 : Addr} {fd fd1 fd2 : FuncData} (F : Fun K "routes" "routes" sRts f fd) (B : Tb mg) (D1 : Dd K mg "routes_on" sRo ["place", "goal", "roads", "met", "begun"] f1 fd1) (D2 : Dd K mg "other_end" sOe ["road", "place"] f2 fd2) : FnG P w K mg base CX0 20 f fd ["origin", "goal", "roads"] (spP ca K 3 fRts) := by
  refine fnP F scRts rfl (fun cdv A outer s H E ds kd gd hr hl hφ => ?_) m_rts
  obtain ⟨R, s, t, rfl, h8, hk⟩ := hφ
  have hlen := Nat.le_trans (rts_8 (R := R) (t := t) (n := 17) (u := s) (b := []) h8) (show 109601 ≤ 16000000 by decide)
  refine ab_one (as_ret ?_)
  refine ax_tof rfl B.tup (aa_cons ?_)
  refine ax_callP (ok_ro D1 D2 B 17) gd hr rfl D1.g D1.F.kp D1.b ?_ (mono := m_ro 17)
  refine aa_cons ?_
  walk_at "av"
  refine aa_cons ?_
  walk_at "av"
  refine aa_cons ?_
  walk_at "av"
  refine aa_cons ?_
  walk_at "av"
  refine aa_cons (ax_tup (aa_nil ?_))
  refine ⟨Nat.zero_le _, ?_⟩
  refine aa_nil ?_
  have ml := meas_le (R := R) (z := [s])
  have ml2 : meas R [s] < 17 := by omega
  refine ⟨rfl, R, t, s, [s], [], rfl, ml2, by simp, by simp, hlen, ?_⟩
  refine aa_nil ?_
  exact ⟨_, _, rfl, rfl, _, .inl rfl, _, rfl, hk⟩
end
end Kw
namespace Kw
abbrev sNr : Stmt := topS 30
theorem scNr : FnScope ["roads", "index", "road"] ["roads"] (defScope sNr) := ⟨rfl, rfl, rfl, by decide +kernel, rfl, by decide +kernel, by decide +kernel⟩
/-- a right road: what is_road takes -/
def rdOk (r : Rd) : Bool := roadB (rdD r) && (pln r.a && pln r.b)
/-- for right roads nothing is raised -/
def fNr : Ph := fun ds k kx => ∃ R : List Rd, ds = [.tup (R.map rdD)] ∧ 0 < R.length ∧ R.length ≤ 8 ∧ (∀ r ∈ R, rdOk r = true) ∧ k .non
theorem m_nr : ∀ ds k1 k2 x1 x2, fNr ds k1 x1 → (∀ d, k1 d → k2 d) → (∀ c ks es, x1 c ks es → x2 c ks es) → fNr ds k2 x2 := by
  rintro ds k1 k2 x1 x2 ⟨R, h1, h2, h3, h4, h5⟩ h _
  exact ⟨R, h1, h2, h3, h4, h _ h5⟩
theorem rd_pln {r : Rd} (h : rdOk r = true) : pln (rdD r) = true ∧ (∀ l, rdD r = .tup l → ∀ e ∈ l, pln e = true) ∧ roadB (rdD r) = true := by
  unfold rdOk at h
  rw [Bool.and_eq_true, Bool.and_eq_true] at h
  refine ⟨rfl, fun l el e m => ?_, h.1⟩
  have e' : [sgn r.lo, sgn r.hi, r.a, r.b] = l := Da.tup.inj el
  subst e'
  have sg : ∀ u, pln (sgn u) = true := fun u => rfl
  simp only [List.mem_cons, List.not_mem_nil, or_false] at m
  rcases m with e1 | e1 | e1 | e1
  · rw [e1]
    exact sg _
  · rw [e1]
    exact sg _
  · rw [e1]
    exact h.2.1
  · rw [e1]
    exact h.2.2
section
variable {ca : Str → Addr} {P : Program} {w : World} {K : PySem.W.Frag} {mg : Str → Option Value} {base : Heap}
theorem ok_nr {f f1 f2 f3 f4 : Addr} {fd fd1 fd2 fd3 fd4 : FuncData} (F : Fun K "need_roads" "need_roads" sNr f fd) (B : Tb mg) (L8 : ∃ t, mg "MOST_ROADS" = some (.int 8 t)) (L : ∃ t, mg "MOST_COST" = some (.int 1000000 t)) (D1 : Dd K mg "is_whole" sWhole ["value", "most"] f1 fd1) (D2 : Dd K mg "is_place" sPlc ["value"] f2 fd2) (D3 : Dd K mg "is_cost" sCst ["value"] f3 fd3)
    (D4 : Dd K mg "is_road" sRd ["value"] f4 fd4) : FnG P w K mg base CX0 4 f fd ["roads"] (spP ca K 1 fNr) := by
  refine fnP F scNr rfl (fun cdv A outer s H E ds kd gd hr hl hφ => ?_) m_nr
  obtain ⟨R, rfl, h0, h8, hok, hk⟩ := hφ
  have hu := hr.units
  have ml := B.len
  obtain ⟨t8, g8⟩ := L8
  refine ab_cons (as_if (aw_at (aw_or (at_isnot ?_))))
  refine ax_type rfl B.ty ?_
  walk_at "go"
  refine ⟨_, "tuple", rfl, rfl, ?_⟩
  refine ax_gty (n := "tuple") rfl B.tup (by decide +kernel) ?_
  refine ⟨_, _, rfl, rfl, ?_⟩
  refine ⟨_, rfl, fun z => (Bool.false_ne_true z).elim, fun _ => ?_⟩
  refine aw_or1 (at_eq hu ?_)
  walk_at "go"
  rw [List.length_map]
  refine ⟨fun z => ?_, fun _ => ab_nil ?_⟩
  · have := beq_iff_eq.mp (show ((R.length : Int) == 0) = true from z)
    omega
  refine ab_one (as_enT rfl PassesOwn.never rfl B.enu (pg_tup rfl (pgs_cons (pg_name (i := 1) scNr.nd rfl (Or.inl rfl)) (pgs_cons (pg_name (i := 2) scNr.nd rfl (Or.inl rfl)) pgs_nil))) (tg_tup (tgs_cons tg_name (tgs_cons tg_name tgs_nil))) ?_)
  walk_at "av"
  refine ⟨_, rfl, fun i e c => c = [] ∧ ∃ y1 y2, e = [some (.im (.tup (R.map rdD))), y1, y2], ⟨rfl, _, _, rfl⟩, ?_, ?_⟩
  · rintro i d e c hd ⟨rfl, y1, y2, rfl⟩
    rw [List.getElem?_map] at hd
    obtain ⟨r, er, ed⟩ := Option.map_eq_some_iff.mp hd
    subst ed
    have lt := (List.getElem?_eq_some_iff.mp er).1
    obtain ⟨p1, p2, p3⟩ := rd_pln (hok r (List.mem_of_getElem? er))
    refine ⟨_, rfl, rfl, _, _, rfl, ⟨Nat.le_of_ble_eq_true rfl, _, _, rfl, ⟨Nat.le_of_ble_eq_true rfl, rfl, ?_⟩⟩⟩
    refine ab_one (as_if (aw_at (aw_or (at_eq hu ?_))))
    walk_at "av"
    refine ax_gint rfl g8 ?_
    refine eqInt ?_
    refine ⟨_, rfl, fun z => ?_, fun _ => ?_⟩
    · have := beq_iff_eq.mp (show ((i : Int) == 8) = true from z)
      omega
    refine aw_or1 (at_not (at_tru ?_))
    refine ax_callP (ok_rd D4.F B L D1 D2 D3) gd (hr.mono (by decide)) rfl D4.g D4.F.kp D4.b ?_ (mono := m_rd)
    refine aa_cons ?_
    walk_at "av"
    refine aa_nil ?_
    refine ⟨rfl, _, rfl, p1, p2, ?_⟩
    rw [p3]
    exact ⟨fun z => (Bool.false_ne_true z).elim, fun _ => ab_nil ⟨rfl, _, _, rfl⟩⟩
  · rintro e c ⟨rfl, y1, y2, rfl⟩
    exact hk
end
end Kw
namespace Kw
/-- every road of a web lies on a way that the program finds -/
theorem used_all {R : List Rd} {s t : Nat} (h : Wb.Vd (prs R) s t) (h8 : R.length ≤ 8) (i : Nat) (hi : i < R.length) : ∃ w ∈ allW R s t, i ∈ w := by
  have len : (prs R).length = R.length := List.length_map ..
  obtain ⟨is, m, w⟩ := h i (by rw [len]; exact hi)
  have short := w.short (List.mem_cons_self ..)
  rw [len] at short
  have z := w.found 17 [] (by omega) (List.mem_cons_self ..)
  rw [List.nil_append] at z
  refine ⟨is, ?_, m⟩
  unfold allW
  rw [rts_dfs 17 s [s] [s] [] fun x => Iff.rfl]
  exact z
/-- and what is on a way is a road -/
theorem used_lt {R : List Rd} {s t : Nat} {w : List Nat} (h : w ∈ allW R s t) (i : Nat) (hi : i ∈ w) : i < R.length := by
  unfold allW at h
  rw [rts_dfs 17 s [s] [s] [] fun x => Iff.rfl] at h
  obtain ⟨is, e, k⟩ := Wb.dfs_wk 17 _ _ _ _ h
  rw [List.nil_append] at e
  subst e
  have z := k.mem_lt i hi
  rwa [show (prs R).length = R.length from List.length_map ..] at z
/-- the indexes on ways, ascending -/
def usedW (R : List Rd) (s t : Nat) : List Nat := (List.range R.length).filter fun i => (allW R s t).any fun w => w.contains i
theorem usedW_mem {R : List Rd} {s t i : Nat} : i ∈ usedW R s t ↔ ∃ w ∈ allW R s t, i ∈ w := by
  unfold usedW
  rw [List.mem_filter, List.mem_range, List.any_eq_true]
  constructor
  · rintro ⟨_, w, hw, hc⟩
    exact ⟨w, hw, by simpa using hc⟩
  · rintro ⟨w, hw, hi⟩
    exact ⟨used_lt hw i hi, w, hw, by simpa using hi⟩
theorem usedW_asc {R : List Rd} {s t : Nat} : (usedW R s t).Pairwise (· < ·) := List.Pairwise.filter _ List.pairwise_lt_range
/-- in a web they are all -/
theorem usedW_all {R : List Rd} {s t : Nat} (h : Wb.Vd (prs R) s t) (h8 : R.length ≤ 8) : usedW R s t = List.range R.length := by
  unfold usedW
  refine List.filter_eq_self.mpr fun i hi => ?_
  obtain ⟨w, hw, m⟩ := used_all h h8 i (List.mem_range.mp hi)
  rw [List.any_eq_true]
  exact ⟨w, hw, by simpa using m⟩
end Kw
namespace Kw
/-- what a drawn web is -/
structure Wgood (R : List Rd) (s t : Nat) : Prop where
  vd : Wb.Vd (prs R) s t
  pos : 0 < R.length
  few : R.length ≤ 8
  ok : ∀ r ∈ R, rdOk r = true
  ne : s ≠ t
  ps : placeB (sgn s) = true
  pt : placeB (sgn t) = true
def webD (R : List Rd) (s t : Nat) : Da := .tup [.tup [sgn s, sgn t], .tup (R.map rdD)]
def pairD (e : Nat × Nat) : Da := .lst [.int (e.1 : Int), .int (e.2 : Int)]
/-- a drawn web from drawn items -/
def fRen : PhJ := fun js ds k kx => ∃ (a b c : Int) (E : List (Nat × Nat)) (n : Nat), js = [.int a, .int b, .int c] ∧ ds = [.lst (E.map pairD), .int (n : Int)] ∧ Wb.Gd E n ∧ 0 < E.length ∧ E.length ≤ 8 ∧ n ≤ 12 ∧ ∀ R s t, Wgood R s t → ∀ a' b' c' : Int, k (webD R s t) [.int a', .int b', .int c']
theorem m_ren : ∀ js ds k1 k2 x1 x2, fRen js ds k1 x1 → (∀ d js', k1 d js' → k2 d js') → (∀ c ks es js', x1 c ks es js' → x2 c ks es js') → fRen js ds k2 x2 := by
  rintro js ds k1 k2 x1 x2 ⟨a, b, c, E, n, h1, h2, h3, h4, h5, h6, h7⟩ h _
  exact ⟨a, b, c, E, n, h1, h2, h3, h4, h5, h6, fun R s t g a' b' c' => h _ _ (h7 R s t g a' b' c')⟩
abbrev sMade : Stmt := topS 41
theorem scMade : FnScope ["jar", "most", "items", "fresh", "turn", "at", "low", "high"] ["jar", "most"] (defScope sMade) := ⟨rfl, rfl, rfl, by decide +kernel, rfl, by decide +kernel, by decide +kernel⟩
def fMade : PhJ := fun js ds k kx => ∃ (a b c : Int) (m : Int), js = [.int a, .int b, .int c] ∧ ds = [.int m] ∧ 0 < m ∧ m ≤ 8 ∧ ∀ R s t, Wgood R s t → ∀ a' b' c' : Int, k (webD R s t) [.int a', .int b', .int c']
theorem m_made : ∀ js ds k1 k2 x1 x2, fMade js ds k1 x1 → (∀ d js', k1 d js' → k2 d js') → (∀ c ks es js', x1 c ks es js' → x2 c ks es js') → fMade js ds k2 x2 := by
  rintro js ds k1 k2 x1 x2 ⟨a, b, c, m, h1, h2, h3, h4, h7⟩ h _
  exact ⟨a, b, c, m, h1, h2, h3, h4, fun R s t g a' b' c' => h _ _ (h7 R s t g a' b' c')⟩
section
variable {ca : Str → Addr} {P : Program} {w : World} {K : PySem.W.Frag} {mg : Str → Option Value} {base : Heap}
theorem ok_made {f f1 f2 : Addr} {fd fd1 fd2 : FuncData} (F : Fun K "_law_made" "_law_made" sMade f fd) (B : Tb mg) (D1 : Dd K mg "_law_dip" sDip ["jar", "wide"] f1 fd1) {st2 : Stmt} (D2 : Dd K mg "_law_renamed" st2 ["jar", "items", "many"] f2 fd2) (O2 : FnG P w K mg base CX0 4 f2 fd2 ["jar", "items", "many"] (spJ ca K 2 fRen)) :
    FnG P w K mg base CX0 5 f fd ["jar", "most"] (spJ ca K 1 fMade) := by
  have ml := B.len
  refine fnJ F scMade rfl (fun cdv A outer s H E0 js ds kd gd hr hl hφ => ?_) m_made
  obtain ⟨a, b, c, m, rfl, rfl, hm0, hm8, hk⟩ := hφ
  have hu := hr.units
  refine ab_cons (as_parL 2 3 rfl scMade.nd rfl rfl (by decide) rfl rfl (Nat.le_of_ble_eq_true rfl) (Nat.le_of_ble_eq_true rfl) ?_)
  walk_at "go"
  refine ⟨_, rfl, ?_⟩
  refine ab_cons (as_range rfl PassesOwn.never rfl B.rng (pg_name (i := 4) scMade.nd rfl (Or.inl rfl)) tg_name ?_)
  refine ax_callJ (ok_dip D1.F B) gd (hr.mono (by decide)) rfl D1.g D1.F.kp D1.b ?_ (mono := m_dip)
  walk_at "go"
  refine ⟨0, _, rfl, ?_⟩
  walk_at "go"
  refine ⟨rfl, _, rfl, a, b, c, m, rfl, rfl, hm0, by omega, fun x a1 b1 c1 x0 x1 => ?_⟩
  refine ⟨x, rfl, by omega, by omega, fun i e cc => ∃ (E : List (Nat × Nat)) (n : Nat) (a2 b2 c2 : Int), cc = [some [.int a2, .int b2, .int c2], some (E.map pairD)] ∧ Wb.Gd E n ∧ E.length = i + 1 ∧ n ≤ i + 2 ∧ ∃ y4 y5 y6 y7, e = [some (.ow 0), some (.im (.int m)), some (.ow 1), some (.im (.int (n : Int))), y4, y5, y6, y7], ⟨[(0, 1)], 2, a1, b1, c1, rfl, Wb.gd_made, rfl, Nat.le_refl _, _, _, _, _, rfl⟩, ?_, ?_⟩
  · rintro i e cc hi ⟨E, n, a2, b2, c2, rfl, gd2, hE, hn, y4, y5, y6, y7, rfl⟩
    refine ⟨Nat.le_of_ble_eq_true rfl, ?_⟩
    refine ab_cons (as_set 5 scMade.nd rfl (.inl rfl) (Nat.le_of_ble_eq_true rfl) ?_)
    refine ax_callJ (ok_dip D1.F B) gd (hr.mono (by decide)) rfl D1.g D1.F.kp D1.b ?_ (mono := m_dip)
    walk_at "go"
    refine ⟨E.map pairD, rfl, ?_⟩
    walk_at "go"
    refine ⟨0, _, rfl, ?_⟩
    walk_at "go"
    refine ⟨rfl, _, rfl, a2, b2, c2, _, rfl, rfl, by rw [List.length_map]; omega, by rw [List.length_map]; omega, fun at_ a3 b3 c3 at0 at1 => ?_⟩
    rw [List.length_map] at at1
    obtain ⟨j, rfl⟩ := Int.eq_ofNat_of_zero_le at0
    have lt : j < E.length := by omega
    obtain ⟨lo, hi, ej⟩ : ∃ lo hi, E[j]? = some (lo, hi) := ⟨E[j].1, E[j].2, List.getElem?_eq_getElem lt⟩
    have ed : (E.map pairD)[j]? = some (pairD (lo, hi)) := by rw [List.getElem?_map, ej]; rfl
    refine ab_cons (as_unp (pg_lst rfl (pgs_cons (pg_name (i := 6) scMade.nd rfl (Or.inl rfl)) (pgs_cons (pg_name (i := 7) scMade.nd rfl (Or.inl rfl)) pgs_nil))) (tg_lst (tgs_cons tg_name (tgs_cons tg_name tgs_nil))) ?_)
    walk_at "go"
    refine oIx rfl (atI_of rfl ed) ?_
    refine ⟨_, rfl, _, rfl, rfl, _, _, rfl, ⟨Nat.le_of_ble_eq_true rfl, _, _, rfl, ⟨Nat.le_of_ble_eq_true rfl, rfl, ?_⟩⟩⟩
    refine ab_one (as_if (at_eq hu ?_))
    refine ax_callJ (ok_dip D1.F B) gd (hr.mono (by decide)) rfl D1.g D1.F.kp D1.b ?_ (mono := m_dip)
    walk_at "go"
    refine ⟨0, _, rfl, ?_⟩
    walk_at "go"
    refine ⟨rfl, _, rfl, a3, b3, c3, 2, rfl, rfl, by decide, by decide, fun y a4 b4 c4 y0 y1 => ?_⟩
    walk_at "go"
    refine ⟨fun _ => ?_, fun _ => ?_⟩
    · refine ab_one (as_expr (ax_append ?_))
      walk_at "go"
      refine ⟨1, _, rfl, rfl, ?_⟩
      walk_at "go"
      refine ⟨_, _, rfl, rfl, by rw [List.length_map]; omega, ?_⟩
      refine ⟨E ++ [(lo, hi)], n, a4, b4, c4, ?_, gd2.beside ej, by rw [List.length_append, List.length_singleton]; omega, by omega, _, _, _, _, rfl⟩
      rw [List.map_append]
      rfl
    · refine ab_cons (as_item ?_)
      walk_at "go"
      refine ⟨_, 1, _, _, j, rfl, rfl, rfl, rfl, ixN_of rfl (by rw [List.length_map]; exact lt), ?_⟩
      refine ab_cons (as_expr (ax_append ?_))
      walk_at "go"
      refine ⟨1, _, rfl, rfl, ?_⟩
      walk_at "go"
      refine ⟨_, _, rfl, rfl, by rw [List.length_set, List.length_map]; omega, ?_⟩
      refine ab_one (as_set 3 scMade.nd rfl (.inl rfl) (Nat.le_of_ble_eq_true rfl) ?_)
      walk_at "go"
      refine ⟨E.set j (lo, n) ++ [(n, hi)], n + 1, a4, b4, c4, ?_, gd2.parted ej, by rw [List.length_append, List.length_set, List.length_singleton]; omega, by omega, _, _, _, _, rfl⟩
      rw [List.map_append, List.map_set]
      rfl
  · rintro e cc ⟨E, n, a2, b2, c2, rfl, gd2, hE, hn, y4, y5, y6, y7, rfl⟩
    refine ab_frz 1 _ rfl ?_
    refine ab_one (as_ret ?_)
    refine ax_callJ O2 gd hr rfl D2.g D2.F.kp D2.b ?_ (mono := m_ren)
    walk_at "go"
    refine ⟨0, _, rfl, ?_⟩
    walk_at "go"
    refine ⟨rfl, _, rfl, a2, b2, c2, E, n, rfl, rfl, gd2, by omega, by omega, by omega, fun R s t g a' b' c' => ?_⟩
    exact ⟨_, _, _, rfl, rfl, hk R s t g _ _ _⟩
end
end Kw
namespace Kw
/-! ### renaming: mathematics -/
theorem er_map {α β : Type} {f : α → β} : ∀ {l : List α} {i : Nat}, (l.map f).eraseIdx i = (l.eraseIdx i).map f
  | [], _ => rfl
  | _ :: _, 0 => rfl
  | a :: l, i + 1 => congrArg (f a :: ·) (er_map (l := l) (i := i))
theorem er_perm {α : Type} : ∀ {l : List α} {i : Nat} {a : α}, l[i]? = some a → (a :: l.eraseIdx i).Perm l
  | [], _, _, h => by simp at h
  | b :: l, 0, a, h => by
    have e := Option.some.inj h
    subst e
    exact List.Perm.refl _
  | b :: l, i + 1, a, h => by
    have ih := er_perm (l := l) (i := i) (a := a) h
    exact (List.Perm.swap b a _).trans (ih.cons b)
theorem full_mem {N : Nat} {l : List Nat} (nd : l.Nodup) (lt : ∀ i ∈ l, i < N) (hl : l.length = N) (i : Nat) (hi : i < N) : i ∈ l := by
  by_cases c : i ∈ l
  · exact c
  · have z := Wb.nodup_len N (i :: l) (List.nodup_cons.mpr ⟨c, nd⟩) fun j hj => by
      rcases List.mem_cons.mp hj with e | h
      · rw [e]
        exact hi
      · exact lt j h
    rw [List.length_cons] at z
    omega
def nmOf (names : List Nat) (i : Nat) : Nat := names[i]?.getD 0
/-- a road told by the names of its ends -/
def Told (names : List Nat) (E : List (Nat × Nat)) (ds : List Nat) (R : List Rd) : Prop := ∀ (j : Nat) (r : Rd), R[j]? = some r → ∃ i lo hi, ds[j]? = some i ∧ E[i]? = some (lo, hi) ∧ ((r.lo = nmOf names lo ∧ r.hi = nmOf names hi) ∨ (r.lo = nmOf names hi ∧ r.hi = nmOf names lo))
theorem ren_vd {E : List (Nat × Nat)} {n : Nat} {names ds : List Nat} {R : List Rd} (g : Wb.Gd E n) (hn : names.Nodup) (hl : names.length = n) (dn : ds.Nodup) (dl : ds.length = E.length) (dlt : ∀ i ∈ ds, i < E.length) (hR : R.length = E.length) (hr : Told names E ds R) : Wb.Vd (prs R) (nmOf names 0) (nmOf names 1) := by
  have at_ : ∀ i, i < E.length → ds[ds.idxOf i]? = some i := fun i hi => by
    have m := full_mem dn dlt dl i hi
    have lt := List.idxOf_lt_length_iff.mpr m
    rw [List.getElem?_eq_getElem lt, List.getElem_idxOf lt]
  have two := g.two
  refine Wb.vd_map (f := nmOf names) (σ := fun i => ds.idxOf i) (fun x => x < n) g.vd (fun x y hx hy e => ?_) (fun i u v h => g.jn h) (by show 0 < n; omega) (by show 1 < n; omega) (fun i u v h => ?_) (fun j hj => ?_)
  · have hx' : x < names.length := by rw [hl]; exact hx
    have hy' : y < names.length := by rw [hl]; exact hy
    unfold nmOf at e
    rw [List.getElem?_eq_getElem hx', List.getElem?_eq_getElem hy'] at e
    refine (List.getElem?_inj hx' hn).mp ?_
    rw [List.getElem?_eq_getElem hx', List.getElem?_eq_getElem hy']
    exact congrArg some e
  · have hi := h.lt
    have a1 := at_ i hi
    have lt := (List.getElem?_eq_some_iff.mp a1).1
    have ltR : ds.idxOf i < R.length := by omega
    obtain ⟨i', lo, hi', e1, e2, e3⟩ := hr _ _ (List.getElem?_eq_getElem ltR)
    rw [a1] at e1
    cases e1
    have ap : (prs R)[ds.idxOf i]? = some (R[ds.idxOf i].lo, R[ds.idxOf i].hi) := by
      unfold prs
      rw [List.getElem?_map, List.getElem?_eq_getElem ltR]
      rfl
    unfold Wb.Jn
    rw [ap]
    rcases h with q | q
    · rw [e2] at q
      cases q
      rcases e3 with ⟨z1, z2⟩ | ⟨z1, z2⟩
      · left; rw [z1, z2]
      · right; rw [z1, z2]
    · rw [e2] at q
      cases q
      rcases e3 with ⟨z1, z2⟩ | ⟨z1, z2⟩
      · right; rw [z1, z2]
      · left; rw [z1, z2]
  · have hj' : j < ds.length := by
      unfold prs at hj
      rw [List.length_map] at hj
      omega
    refine ⟨ds[j], dlt _ (List.getElem_mem hj'), ?_⟩
    have lt := List.idxOf_lt_length_iff.mpr (List.getElem_mem hj')
    refine (List.getElem?_inj lt dn).mp ?_
    rw [at_ _ (dlt _ (List.getElem_mem hj')), List.getElem?_eq_getElem hj']
/-! ### letters -/
def lettersS : Str := "abcdefghijkmxyz"
def letters : List Nat := lettersS.cps.toList
theorem letters_ok : letters.all (fun c => placeB (sgn c)) = true := by decide +kernel
theorem letters_nd : letters.Nodup := by decide +kernel
theorem letters_len : letters.length = 15 := by decide +kernel
theorem letter_ok {c : Nat} (h : c ∈ letters) : placeB (sgn c) = true := List.all_eq_true.mp letters_ok c h
theorem two_sorted {x y : Nat} (ne : x ≠ y) {ys : List Str} (hp : ys.Perm [⟨#[x]⟩, ⟨#[y]⟩]) (hs : sortedS ys = true) : ∃ p q : Nat, ys = [⟨#[p]⟩, ⟨#[q]⟩] ∧ p < q ∧ ((p = x ∧ q = y) ∨ (p = y ∧ q = x)) := by
  have out : ∀ {u v : Nat}, u ≠ v → sortedS [⟨#[u]⟩, ⟨#[v]⟩] = true → u < v := by
    intro u v nuv h
    have h1 : (!ltCps [v] [u] && true) = true := h
    rw [Bool.and_true, ltCps_eq] at h1
    have h2 : ¬ ([v] < [u]) := by simpa using h1
    by_cases c : u < v
    · exact c
    · exact absurd (List.Lex.rel (by omega)) h2
  match ys, hp.length_eq with
  | [u, v], _ =>
    have m := hp.mem_iff.mp (List.mem_cons_self ..)
    rcases List.mem_cons.mp m with e | m
    · subst e
      have z := List.perm_singleton.mp hp.cons_inv
      cases z
      exact ⟨x, y, rfl, out ne hs, .inl ⟨rfl, rfl⟩⟩
    · have e := List.mem_singleton.mp m
      subst e
      have z := List.perm_singleton.mp (hp.trans (List.Perm.swap _ _ _)).cons_inv
      cases z
      exact ⟨y, x, rfl, out (Ne.symm ne) hs, .inr ⟨rfl, rfl⟩⟩
theorem rd_ok {p q : Nat} {x y : Int} (hp : p ∈ letters) (hq : q ∈ letters) (lt : p < q) (x0 : 0 ≤ x) (x1 : x ≤ 1000000) (y0 : 0 ≤ y) (y1 : y ≤ 1000000) : rdOk ⟨p, q, .int x, .int y⟩ = true := by
  have e : roadB (rdD ⟨p, q, .int x, .int y⟩) = (placeB (sgn p) && (placeB (sgn q) && (ltD (sgn p) (sgn q) && (wholeB (.int x) 1000000 && wholeB (.int y) 1000000)))) := rfl
  have l : ltD (sgn p) (sgn q) = true := by
    show decide ([p] < [q]) = true
    exact decide_eq_true (List.Lex.rel lt)
  have w : ∀ {z : Int}, 0 ≤ z → z ≤ 1000000 → wholeB (.int z) 1000000 = true := fun {z} z0 z1 => by
    show (decide (0 ≤ z) && decide (z ≤ 1000000)) = true
    rw [decide_eq_true z0, decide_eq_true z1]
    rfl
  unfold rdOk
  rw [e, letter_ok hp, letter_ok hq, l, w x0 x1, w y0 y1]
  rfl
end Kw
namespace Kw
abbrev sRen : Stmt := topS 42
theorem scRen : FnScope ["jar", "items", "many", "rest", "names", "k", "found", "left", "turn", "low", "high", "pair_here"] ["jar", "items", "many"] (defScope sRen) := ⟨rfl, rfl, rfl, by decide +kernel, rfl, by decide +kernel, by decide +kernel⟩
/-- what names are drawn -/
structure NmI (rs nm : List Nat) : Prop where
  nd : (nm ++ rs).Nodup
  sub : ∀ c ∈ nm ++ rs, c ∈ letters
  len : (nm ++ rs).length = 15
theorem NmI.step {rs nm : List Nat} {i c : Nat} (h : NmI rs nm) (hc : rs[i]? = some c) : NmI (rs.eraseIdx i) (nm ++ [c]) := by
  have p : (nm ++ [c] ++ rs.eraseIdx i).Perm (nm ++ rs) := by
    rw [List.append_assoc]
    exact (er_perm hc).append_left nm
  exact ⟨p.nodup_iff.mpr h.nd, fun x hx => h.sub x (p.mem_iff.mp hx), p.length_eq.trans h.len⟩
/-- what roads are drawn -/
structure RdI (E : List (Nat × Nat)) (names lf dn : List Nat) (R : List Rd) : Prop where
  nd : (dn ++ lf).Nodup
  sub : ∀ i ∈ dn ++ lf, i < E.length
  len : (dn ++ lf).length = E.length
  lenR : R.length = dn.length
  told : Told names E dn R
  ok : ∀ r ∈ R, rdOk r = true
theorem RdI.step {E : List (Nat × Nat)} {names lf dn : List Nat} {R : List Rd} {k i lo hi : Nat} {r : Rd} (h : RdI E names lf dn R) (hk : lf[k]? = some i) (he : E[i]? = some (lo, hi)) (hr : (r.lo = nmOf names lo ∧ r.hi = nmOf names hi) ∨ (r.lo = nmOf names hi ∧ r.hi = nmOf names lo)) (ok : rdOk r = true) :
    RdI E names (lf.eraseIdx k) (dn ++ [i]) (R ++ [r]) := by
  have p : (dn ++ [i] ++ lf.eraseIdx k).Perm (dn ++ lf) := by
    rw [List.append_assoc]
    exact (er_perm hk).append_left dn
  refine ⟨p.nodup_iff.mpr h.nd, fun x hx => h.sub x (p.mem_iff.mp hx), p.length_eq.trans h.len, by simp [h.lenR], fun j q hq => ?_, fun q hq => ?_⟩
  · by_cases c : j < R.length
    · rw [List.getElem?_append_left c] at hq
      obtain ⟨i', lo', hi', e1, e2⟩ := h.told j q hq
      exact ⟨i', lo', hi', by rw [List.getElem?_append_left (by rw [← h.lenR]; exact c)]; exact e1, e2⟩
    · have ej : j = R.length := by
        have := (List.getElem?_eq_some_iff.mp hq).1
        rw [List.length_append, List.length_singleton] at this
        omega
      subst ej
      rw [List.getElem?_append_right (Nat.le_refl _), Nat.sub_self] at hq
      cases hq
      exact ⟨i, lo, hi, by rw [h.lenR, List.getElem?_append_right (Nat.le_refl _), Nat.sub_self]; rfl, he, hr⟩
  · rcases List.mem_append.mp hq with q1 | q1
    · exact h.ok q q1
    · rw [List.mem_singleton.mp q1]
      exact ok
def itD (E : List (Nat × Nat)) (i : Nat) : Da := pairD (E[i]?.getD (0, 0))
theorem it_all (E : List (Nat × Nat)) : E.map pairD = (List.range E.length).map (itD E) := by
  refine List.ext_getElem? fun i => ?_
  rw [List.getElem?_map, List.getElem?_map]
  by_cases c : i < E.length
  · rw [List.getElem?_range c]
    rw [List.getElem?_eq_getElem c]
    show some (pairD E[i]) = some (itD E i)
    unfold itD
    rw [List.getElem?_eq_getElem c]
    rfl
  · rw [List.getElem?_eq_none (Nat.le_of_not_lt c), List.getElem?_eq_none (by rw [List.length_range]; exact Nat.le_of_not_lt c)]
    rfl
section
variable {ca : Str → Addr} {P : Program} {w : World} {K : PySem.W.Frag} {mg : Str → Option Value} {base : Heap}
theorem ok_ren {f f1 f2 f3 : Addr} {fd fd1 fd2 fd3 : FuncData} (F : Fun K "_law_renamed" "_law_renamed" sRen f fd) (B : Tb mg) (ml : mg "list" = none) (D1 : Dd K mg "_law_dip" sDip ["jar", "wide"] f1 fd1) (D2 : Dd K mg "_law_pick" sPick ["jar", "menu"] f2 fd2) (D3 : Dd K mg "_law_price" sPrc ["jar"] f3 fd3) :
    FnG P w K mg base CX0 4 f fd ["jar", "items", "many"] (spJ ca K 2 fRen) := by
  have mlen := B.len
  have msrt := B.srt
  have mtup := B.tup
  refine fnJ F scRen rfl (fun cdv A outer s H E0 js ds kd gd hr hl hφ => ?_) m_ren
  obtain ⟨a, b, c, E, n, rfl, rfl, hg, hE0, hE8, hn, hk⟩ := hφ
  have hu := hr.units
  -- rest, names = (list('..'), [])
  refine ab_cons (as_parLL 3 4 rfl scRen.nd rfl rfl (by decide) rfl rfl (Nat.le_of_ble_eq_true rfl) (Nat.le_of_ble_eq_true rfl) ?_)
  refine al_ltx rfl rfl ml (aa_cons (ax_str (aa_nil ?_)))
  refine ⟨lettersS, rfl, by decide +kernel, ?_⟩
  refine al_lst (aa_nil ?_)
  refine ⟨Nat.le_of_ble_eq_true rfl, ?_⟩
  refine ab_cons (as_range rfl PassesOwn.never rfl B.rng (pg_name (i := 5) scRen.nd rfl (Or.inl rfl)) tg_name ?_)
  walk_at "go"
  have two := hg.two
  refine ⟨by omega, by omega, fun i e cc => ∃ (rs nm : List Nat) (a2 b2 c2 : Int), cc = [some [.int a2, .int b2, .int c2], some (rs.map sgn), some (nm.map sgn)] ∧ NmI rs nm ∧ nm.length = i ∧ ∃ y, e = [some (.ow 0), some (.im (.lst (E.map pairD))), some (.im (.int (n : Int))), some (.ow 1), some (.ow 2), y, none, none, none, none, none, none], ⟨letters, [], a, b, c, rfl, ⟨letters_nd, fun _ h => h, letters_len⟩, rfl, _, rfl⟩, ?_, ?_⟩
  · rintro i e cc hi ⟨rs, nm, a2, b2, c2, rfl, hI, hnm, y, rfl⟩
    refine ⟨Nat.le_of_ble_eq_true rfl, ?_⟩
    have hlen := hI.len
    rw [List.length_append] at hlen
    refine ab_one (as_expr (ax_append ?_))
    walk_at "av"
    refine ⟨2, _, rfl, rfl, ?_⟩
    refine ax_pop ?_
    walk_at "av"
    refine ⟨1, _, rfl, rfl, ?_⟩
    refine ax_callJ (ok_dip D1.F B) gd (hr.mono (by decide)) rfl D1.g D1.F.kp D1.b ?_ (mono := m_dip)
    walk_at "go"
    refine ⟨rs.map sgn, rfl, ?_⟩
    walk_at "go"
    refine ⟨0, _, rfl, ?_⟩
    walk_at "go"
    refine ⟨rfl, _, rfl, a2, b2, c2, _, rfl, rfl, by rw [List.length_map]; omega, by rw [List.length_map]; omega, fun at_ a3 b3 c3 at0 at1 => ?_⟩
    rw [List.length_map] at at1
    obtain ⟨j, rfl⟩ := Int.eq_ofNat_of_zero_le at0
    have lt : j < rs.length := by omega
    have er : rs[j]? = some rs[j] := List.getElem?_eq_getElem lt
    refine ⟨_, sgn rs[j], j, rfl, rfl, by rw [List.getElem?_map, er]; rfl, by omega, ?_⟩
    refine ⟨_, _, rfl, rfl, by rw [List.length_map]; omega, ?_⟩
    refine ⟨rs.eraseIdx j, nm ++ [rs[j]], a3, b3, c3, ?_, hI.step er, by rw [List.length_append, List.length_singleton, hnm], _, rfl⟩
    rw [er_map, List.map_append]
    rfl
  · rintro e cc ⟨rs, nm, a2, b2, c2, rfl, hI, hnm, y, rfl⟩
    have hnl : nm.length = n := by omega
    have nmd : nm.Nodup := (List.nodup_append.mp hI.nd).1
    have at_nm : ∀ x, x < n → (nm.map sgn)[x]? = some (sgn (nmOf nm x)) ∧ nmOf nm x ∈ letters := fun x hx => by
      have hx' : x < nm.length := by omega
      have e : nmOf nm x = nm[x] := by
        unfold nmOf
        rw [List.getElem?_eq_getElem hx']
        rfl
      refine ⟨by rw [List.getElem?_map, List.getElem?_eq_getElem hx', e]; rfl, ?_⟩
      rw [e]
      exact hI.sub _ (List.mem_append_left _ (List.getElem_mem hx'))
    have nm_inj : ∀ x y, x < n → y < n → nmOf nm x = nmOf nm y → x = y := fun x y hx hy e => by
      have hx' : x < nm.length := by omega
      have hy' : y < nm.length := by omega
      refine (List.getElem?_inj hx' nmd).mp ?_
      unfold nmOf at e
      rw [List.getElem?_eq_getElem hx', List.getElem?_eq_getElem hy'] at e ⊢
      exact congrArg some e
    -- found, left = ([], list(items))
    refine ab_cons (as_parLL 6 7 rfl scRen.nd rfl rfl (by decide) rfl rfl (Nat.le_of_ble_eq_true rfl) (Nat.le_of_ble_eq_true rfl) ?_)
    refine al_lst (aa_nil ?_)
    refine ⟨Nat.le_of_ble_eq_true rfl, ?_⟩
    refine al_lof rfl ml (aa_cons ?_)
    walk_at "av"
    refine aa_nil ?_
    refine ⟨_, _, rfl, rfl, _, .inl rfl, ?_⟩
    refine ab_cons (as_range rfl PassesOwn.never rfl B.rng (pg_name (i := 8) scRen.nd rfl (Or.inl rfl)) tg_name ?_)
    walk_at "go"
    refine ⟨by rw [List.length_map]; omega, by rw [List.length_map]; omega, fun i e cc => ∃ (lf dn : List Nat) (R : List Rd) (a3 b3 c3 : Int), cc = [some [.int a3, .int b3, .int c3], some (rs.map sgn), some (nm.map sgn), some (R.map rdD), some (lf.map (itD E))] ∧ RdI E nm lf dn R ∧ R.length = i ∧
      ∃ y8 y9 y10 y11, e = [some (.ow 0), some (.im (.lst (E.map pairD))), some (.im (.int (n : Int))), some (.ow 1), some (.ow 2), y, some (.ow 3), some (.ow 4), y8, y9, y10, y11], ?_, ?_, ?_⟩
    · exact ⟨List.range E.length, [], [], a2, b2, c2, by rw [← it_all]; rfl, ⟨List.nodup_range, fun i h => List.mem_range.mp h, List.length_range, rfl, fun j r h => by simp at h, fun r h => nomatch h⟩, rfl, _, _, _, _, rfl⟩
    · rintro i e cc hi ⟨lf, dn, R, a3, b3, c3, rfl, hJ, hRi, y8, y9, y10, y11, rfl⟩
      rw [List.length_map] at hi
      refine ⟨Nat.le_of_ble_eq_true rfl, ?_⟩
      have hlen := hJ.len
      have hlr := hJ.lenR
      rw [List.length_append] at hlen
      have hi' : i < E.length := by omega
      refine ab_cons (as_unp (pg_lst rfl (pgs_cons (pg_name (i := 9) scRen.nd rfl (Or.inl rfl)) (pgs_cons (pg_name (i := 10) scRen.nd rfl (Or.inl rfl)) pgs_nil))) (tg_lst (tgs_cons tg_name (tgs_cons tg_name tgs_nil))) ?_)
      refine ax_pop ?_
      walk_at "av"
      refine ⟨4, _, rfl, rfl, ?_⟩
      refine ax_callJ (ok_dip D1.F B) gd (hr.mono (by decide)) rfl D1.g D1.F.kp D1.b ?_ (mono := m_dip)
      walk_at "go"
      refine ⟨lf.map (itD E), rfl, ?_⟩
      walk_at "go"
      refine ⟨0, _, rfl, ?_⟩
      walk_at "go"
      refine ⟨rfl, _, rfl, a3, b3, c3, _, rfl, rfl, by rw [List.length_map]; omega, by rw [List.length_map]; omega, fun at_ a4 b4 c4 at0 at1 => ?_⟩
      rw [List.length_map] at at1
      obtain ⟨j, rfl⟩ := Int.eq_ofNat_of_zero_le at0
      have lt : j < lf.length := by omega
      have er : lf[j]? = some lf[j] := List.getElem?_eq_getElem lt
      have hx : lf[j] < E.length := hJ.sub _ (List.mem_append_right _ (List.getElem_mem lt))
      generalize lf[j] = x at er hx
      obtain ⟨lo, hi2, ee⟩ : ∃ lo hi, E[x]? = some (lo, hi) := ⟨E[x].1, E[x].2, List.getElem?_eq_getElem hx⟩
      have em := List.mem_of_getElem? ee
      have l1 := (hg.lt _ em).1
      have l2 := (hg.lt _ em).2
      have lne := hg.ne _ em
      dsimp only at l1 l2 lne
      have ei : itD E x = pairD (lo, hi2) := by
        unfold itD
        rw [ee]
        rfl
      refine ⟨_, pairD (lo, hi2), j, rfl, rfl, by rw [List.getElem?_map, er, ← ei]; rfl, by omega, ?_⟩
      refine ⟨_, rfl, _, rfl, rfl, _, _, rfl, ⟨Nat.le_of_ble_eq_true rfl, _, _, rfl, ⟨Nat.le_of_ble_eq_true rfl, rfl, ?_⟩⟩⟩
      -- pair_here = sorted([names[low], names[high]])
      refine ab_cons (as_set 11 scRen.nd rfl (.inl rfl) (Nat.le_of_ble_eq_true rfl) (ax_al (al_soS rfl msrt (aa_cons (ax_lst (aa_cons ?_))))))
      refine ax_ix ?_
      walk_at "av"
      walk_at "av"
      refine oIx rfl (atI_of rfl (at_nm lo l1).1) ?_
      refine aa_cons (ax_ix ?_)
      walk_at "av"
      walk_at "av"
      refine oIx rfl (atI_of rfl (at_nm hi2 l2).1) ?_
      refine aa_nil ?_
      refine ⟨Nat.le_of_ble_eq_true rfl, ?_⟩
      refine aa_nil ?_
      refine ⟨_, [⟨#[nmOf nm lo]⟩, ⟨#[nmOf nm hi2]⟩], rfl, rfl, Nat.le_of_ble_eq_true rfl, fun ys hp hs => ?_⟩
      obtain ⟨p, q, rfl, plt, hpq⟩ := two_sorted (fun e => lne (nm_inj _ _ l1 l2 e)) hp hs
      have pq : p ∈ letters ∧ q ∈ letters := by
        rcases hpq with ⟨rfl, rfl⟩ | ⟨rfl, rfl⟩
        · exact ⟨(at_nm lo l1).2, (at_nm hi2 l2).2⟩
        · exact ⟨(at_nm hi2 l2).2, (at_nm lo l1).2⟩
      -- found.append((..) + _law_price(jar))
      refine ab_one (as_expr (ax_append ?_))
      walk_at "av"
      refine ⟨3, _, rfl, rfl, ?_⟩
      refine ax_add (ax_tup (aa_cons (ax_ix ?_)))
      walk_at "av"
      refine ax_int ?_
      refine lIx rfl ?_
      refine aa_cons (ax_ix ?_)
      walk_at "av"
      refine ax_int ?_
      refine lIx rfl ?_
      refine aa_nil ?_
      refine ⟨Nat.le_of_ble_eq_true rfl, ?_⟩
      refine ax_callJ (ok_prc D3.F B D1 D2) gd hr rfl D3.g D3.F.kp D3.b ?_ (mono := m_prc)
      walk_at "go"
      refine ⟨0, _, rfl, ?_⟩
      walk_at "go"
      refine ⟨rfl, _, rfl, a4, b4, c4, rfl, rfl, fun u v a5 b5 c5 u0 u1 v0 v1 => ?_⟩
      refine ⟨Nat.le_of_ble_eq_true rfl, ?_⟩
      refine ⟨_, _, rfl, rfl, by rw [List.length_map]; omega, ?_⟩
      refine ⟨lf.eraseIdx j, dn ++ [x], R ++ [⟨p, q, .int u, .int v⟩], a5, b5, c5, ?_, hJ.step er ee ?_ (rd_ok pq.1 pq.2 plt u0 u1 v0 v1), by rw [List.length_append, List.length_singleton, hRi], _, _, _, _, rfl⟩
      · rw [er_map, List.map_append]
        rfl
      · exact hpq
    · rintro e cc ⟨lf, dn, R, a3, b3, c3, rfl, hJ, hRi, y8, y9, y10, y11, rfl⟩
      have hRE : R.length = E.length := by
        rw [List.length_map] at hRi
        omega
      have hlen := hJ.len
      have hlr := hJ.lenR
      rw [List.length_append] at hlen
      have vd := ren_vd hg nmd hnl (List.nodup_append.mp hJ.nd).1 (by omega) (fun i h => hJ.sub i (List.mem_append_left _ h)) hRE hJ.told
      refine ab_one (as_ret (ax_tup (aa_cons (ax_tup (aa_cons (ax_ix ?_))))))
      walk_at "av"
      refine ax_int ?_
      refine oIx rfl (atI_of rfl (at_nm 0 (by omega)).1) ?_
      refine aa_cons (ax_ix ?_)
      walk_at "av"
      refine ax_int ?_
      refine oIx rfl (atI_of rfl (at_nm 1 (by omega)).1) ?_
      refine aa_nil ?_
      refine ⟨Nat.le_of_ble_eq_true rfl, ?_⟩
      refine aa_cons (ax_tof rfl mtup (aa_cons ?_))
      walk_at "av"
      refine aa_nil ?_
      refine ⟨_, _, rfl, rfl, _, .inl rfl, ?_⟩
      refine aa_nil ?_
      refine ⟨Nat.le_of_ble_eq_true rfl, ?_⟩
      exact ⟨_, _, _, rfl, rfl, hk R _ _ ⟨vd, by omega, by omega, hJ.ok, fun e => absurd (nm_inj 0 1 (by omega) (by omega) e) (by decide), letter_ok (at_nm 0 (by omega)).2, letter_ok (at_nm 1 (by omega)).2⟩ _ _ _⟩
end
end Kw
namespace Kw
abbrev sAny : Stmt := topS 44
theorem scAny : FnScope ["jar"] ["jar"] (defScope sAny) := ⟨rfl, rfl, rfl, by decide +kernel, rfl, by decide +kernel, by decide +kernel⟩
/-- a drawn web -/
def fAny : PhJ := fun js ds k kx => ∃ (a b c : Int), js = [.int a, .int b, .int c] ∧ ds = [] ∧ ∀ R s t, Wgood R s t → ∀ a' b' c' : Int, k (webD R s t) [.int a', .int b', .int c']
theorem m_any : ∀ js ds k1 k2 x1 x2, fAny js ds k1 x1 → (∀ d js', k1 d js' → k2 d js') → (∀ c ks es js', x1 c ks es js' → x2 c ks es js') → fAny js ds k2 x2 := by
  rintro js ds k1 k2 x1 x2 ⟨a, b, c, h1, h2, h7⟩ h _
  exact ⟨a, b, c, h1, h2, fun R s t g a' b' c' => h _ _ (h7 R s t g a' b' c')⟩
/-- what _law_crossed is asked: 8 -/
def fCro : PhJ := fun js ds k kx => ∃ (a b c : Int), js = [.int a, .int b, .int c] ∧ ds = [.int 8] ∧ ∀ R s t, Wgood R s t → ∀ a' b' c' : Int, k (webD R s t) [.int a', .int b', .int c']
theorem m_cro : ∀ js ds k1 k2 x1 x2, fCro js ds k1 x1 → (∀ d js', k1 d js' → k2 d js') → (∀ c ks es js', x1 c ks es js' → x2 c ks es js') → fCro js ds k2 x2 := by
  rintro js ds k1 k2 x1 x2 ⟨a, b, c, h1, h2, h7⟩ h _
  exact ⟨a, b, c, h1, h2, fun R s t g a' b' c' => h _ _ (h7 R s t g a' b' c')⟩
section
variable {ca : Str → Addr} {P : Program} {w : World} {K : PySem.W.Frag} {mg : Str → Option Value} {base : Heap}
theorem ok_any {f f1 f2 f3 f4 : Addr} {fd fd1 fd2 fd3 fd4 : FuncData} (F : Fun K "_law_any_web" "_law_any_web" sAny f fd) (B : Tb mg) (D1 : Dd K mg "_law_dip" sDip ["jar", "wide"] f1 fd1) {st2 st4 : Stmt} (D2 : Dd K mg "_law_renamed" st2 ["jar", "items", "many"] f2 fd2) (O2 : FnG P w K mg base CX0 4 f2 fd2 ["jar", "items", "many"] (spJ ca K 2 fRen))
    (D3 : Dd K mg "_law_made" sMade ["jar", "most"] f3 fd3) (D4 : Dd K mg "_law_crossed" st4 ["jar", "most"] f4 fd4) (O4 : FnG P w K mg base CX0 5 f4 fd4 ["jar", "most"] (spJ ca K 1 fCro)) : FnG P w K mg base CX0 6 f fd ["jar"] (spJ ca K 0 fAny) := by
  refine fnJ F scAny rfl (fun cdv A outer s H E0 js ds kd gd hr hl hφ => ?_) m_any
  obtain ⟨a, b, c, rfl, rfl, hk⟩ := hφ
  refine ab_one (as_ret (ax_if (at_gt ?_)))
  refine ax_callJ (ok_dip D1.F B) gd (hr.mono (by decide)) rfl D1.g D1.F.kp D1.b ?_ (mono := m_dip)
  walk_at "go"
  refine ⟨0, _, rfl, ?_⟩
  walk_at "go"
  refine ⟨rfl, _, rfl, a, b, c, 3, rfl, rfl, by decide, by decide, fun x a1 b1 c1 x0 x1 => ?_⟩
  walk_at "go"
  refine ⟨fun _ => ?_, fun _ => ?_⟩
  · refine ax_callJ (ok_made D3.F B D1 D2 O2) gd hr rfl D3.g D3.F.kp D3.b ?_ (mono := m_made)
    walk_at "go"
    refine ⟨0, _, rfl, ?_⟩
    walk_at "go"
    refine ⟨rfl, _, rfl, a1, b1, c1, 8, rfl, rfl, by decide, by decide, fun R s t g a' b' c' => ?_⟩
    exact ⟨_, _, _, rfl, rfl, hk R s t g _ _ _⟩
  · refine ax_callJ O4 gd hr rfl D4.g D4.F.kp D4.b ?_ (mono := m_cro)
    walk_at "go"
    refine ⟨0, _, rfl, ?_⟩
    walk_at "go"
    refine ⟨rfl, _, rfl, a1, b1, c1, rfl, rfl, fun R s t g a' b' c' => ?_⟩
    exact ⟨_, _, _, rfl, rfl, hk R s t g _ _ _⟩
end
end Kw
namespace Kw
theorem as_to {X : Cx} {C : Ct} {env : En} {cs : Cells} {P P' : Pst} {st : Stmt} (h : AS X C st env cs P') (i1 : ∀ e c, P'.nx e c → P.nx e c) (i2 : ∀ a c, P'.rt a c → P.rt a c) (i3 : ∀ e c, P'.bk e c → P.bk e c) (i4 : ∀ e c, P'.ct e c → P.ct e c) : AS X C st env cs P :=
  PS.imp h fun D σ H ⟨ps, G, R, r, px, q⟩ => ⟨ps, G, R, r, px, fun e c ps2 σ G2 R2 H2 h g2 r2 => q.nx e c ps2 σ G2 R2 H2 (i1 e c h) g2 r2, fun a e c ps2 σ v G2 R2 H2 h g2 r2 o => q.rt a e c ps2 σ v G2 R2 H2 (i2 a c h) g2 r2 o,
    fun e c ps2 σ G2 R2 H2 h g2 r2 => q.bk e c ps2 σ G2 R2 H2 (i3 e c h) g2 r2, fun e c ps2 σ G2 R2 H2 h g2 r2 => q.ct e c ps2 σ G2 R2 H2 (i4 e c h) g2 r2⟩
abbrev sCro : Stmt := topS 43
theorem scCro : FnScope ["jar", "most", "items", "fresh", "side", "turn", "at", "low", "high"] ["jar", "most"] (defScope sCro) := ⟨rfl, rfl, rfl, by decide +kernel, rfl, by decide +kernel, by decide +kernel⟩
/-- the items stand in the cell j -/
def Jn1 (c : Cells) (j : Nat) (E : List (Nat × Nat)) : Prop := (∃ a b d : Int, c[0]? = some (some [.int a, .int b, .int d])) ∧ j ≠ 0 ∧ c[j]? = some (some (E.map pairD))
theorem Jn1.dip {c : Cells} {j : Nat} {E : List (Nat × Nat)} {a b d : Int} (h : Jn1 c j E) : Jn1 (c.set 0 (some [.int a, .int b, .int d])) j E := by
  obtain ⟨⟨a', b', d', h0⟩, h1, h2⟩ := h
  refine ⟨⟨a, b, d, ?_⟩, h1, ?_⟩
  · rw [List.getElem?_set_self (List.getElem?_eq_some_iff.mp h0).1]
  · rw [List.getElem?_set_ne (Ne.symm h1)]
    exact h2
theorem Jn1.put {c : Cells} {j : Nat} {E E' : List (Nat × Nat)} {l : List Da} (h : Jn1 c j E) (e : l = E'.map pairD) : Jn1 (c.set j (some l)) j E' := by
  obtain ⟨⟨a', b', d', h0⟩, h1, h2⟩ := h
  subst e
  refine ⟨⟨a', b', d', ?_⟩, h1, ?_⟩
  · rw [List.getElem?_set_ne h1]
    exact h0
  · rw [List.getElem?_set_self (List.getElem?_eq_some_iff.mp h2).1]
theorem Jn1.new {c : Cells} {j : Nat} {E E' : List (Nat × Nat)} (h : Jn1 c j E) : Jn1 (c ++ [some (E'.map pairD)]) c.length E' := by
  obtain ⟨⟨a', b', d', h0⟩, h1, h2⟩ := h
  have lt := (List.getElem?_eq_some_iff.mp h0).1
  refine ⟨⟨a', b', d', ?_⟩, by omega, ?_⟩
  · rw [List.getElem?_append_left lt]
    exact h0
  · rw [List.getElem?_append_right (Nat.le_refl _), Nat.sub_self]
    rfl
section
variable {ca : Str → Addr} {P : Program} {w : World} {K : PySem.W.Frag} {mg : Str → Option Value} {base : Heap}
theorem ok_cro {f f1 f2 : Addr} {fd fd1 fd2 : FuncData} (F : Fun K "_law_crossed" "_law_crossed" sCro f fd) (B : Tb mg) (D1 : Dd K mg "_law_dip" sDip ["jar", "wide"] f1 fd1) {st2 : Stmt} (D2 : Dd K mg "_law_renamed" st2 ["jar", "items", "many"] f2 fd2) (O2 : FnG P w K mg base CX0 4 f2 fd2 ["jar", "items", "many"] (spJ ca K 2 fRen)) :
    FnG P w K mg base CX0 5 f fd ["jar", "most"] (spJ ca K 1 fCro) := by
  have ml := B.len
  refine fnJ F scCro rfl (fun cdv A outer s H E0 js ds kd gd hr hl hφ => ?_) m_cro
  obtain ⟨a, b, c, rfl, rfl, hk⟩ := hφ
  have hu := hr.units
  refine ab_cons (as_parL 2 3 rfl scCro.nd rfl rfl (by decide) rfl rfl (Nat.le_of_ble_eq_true rfl) (Nat.le_of_ble_eq_true rfl) ?_)
  walk_at "go"
  refine ⟨_, rfl, ?_⟩
  refine ab_cons (as_set 4 scCro.nd rfl (.inl rfl) (Nat.le_of_ble_eq_true rfl) ?_)
  refine ax_callJ (ok_dip D1.F B) gd (hr.mono (by decide)) rfl D1.g D1.F.kp D1.b ?_ (mono := m_dip)
  walk_at "go"
  refine ⟨0, _, rfl, ?_⟩
  walk_at "go"
  refine ⟨rfl, _, rfl, a, b, c, 4, rfl, rfl, by decide, by decide, fun x a1 b1 c1 x0 x1 => ?_⟩
  refine ab_cons (as_to (P' := { nx := fun e cc => ∃ j E n, Jn1 cc j E ∧ Wb.Gd E n ∧ 5 ≤ E.length ∧ E.length ≤ 6 ∧ n ≤ 5 ∧ (x = 3 → n = 5) ∧ e = [some (.ow 0), some (.im (.int 8)), some (.ow j), some (.im (.int (n : Nat))), some (.im (.int x)), none, none, none, none], rt := fun _ _ => False }) (as_if ?_) ?_ (fun _ _ h => h.elim) (fun _ _ h => h.elim) (fun _ _ h => h.elim))
  · walk_at "go"
    refine ⟨fun _ => ?_, fun hx => ?_⟩
    · refine ab_one (as_parL 2 3 rfl scCro.nd rfl rfl (by decide) rfl rfl (Nat.le_of_ble_eq_true rfl) (Nat.le_of_ble_eq_true rfl) ?_)
      walk_at "go"
      refine ⟨_, rfl, ?_⟩
      exact ⟨2, _, 5, ⟨⟨a1, b1, c1, rfl⟩, by decide, rfl⟩, Wb.gd_cross2, by decide, by decide, by decide, fun _ => rfl, rfl⟩
    · refine ab_nil ?_
      exact ⟨1, _, 4, ⟨⟨a1, b1, c1, rfl⟩, by decide, rfl⟩, Wb.gd_cross, by decide, by decide, by decide, fun e => absurd (of_decide_eq_false hx) (by omega), rfl⟩
  rintro e cc ⟨j, E, n, hj, gE, l5, l6, n5, n3, rfl⟩
  refine ab_cons (as_to (P' := { nx := fun e cc => ∃ j E n, Jn1 cc j E ∧ Wb.Gd E n ∧ 5 ≤ E.length ∧ E.length ≤ 6 ∧ n ≤ 5 ∧ e = [some (.ow 0), some (.im (.int 8)), some (.ow j), some (.im (.int (n : Nat))), some (.im (.int x)), none, none, none, none], rt := fun _ _ => False }) (as_if (at_eq hu ?_)) ?_ (fun _ _ h => h.elim) (fun _ _ h => h.elim) (fun _ _ h => h.elim))
  · walk_at "go"
    refine ⟨fun hx => ?_, fun _ => ?_⟩
    · have e3 : x = 3 := beq_iff_eq.mp (show (x == 3) = true from hx)
      have n5' := n3 e3
      subst n5'
      refine ab_one (as_cell 2 scCro.nd rfl (.inl rfl) (Nat.le_of_ble_eq_true rfl) ?_)
      walk_at "go"
      exact ⟨_, _, 5, hj.new (E' := [(0, 2), (0, 3), (2, 3), (2, 4), (3, 4), (4, 1)]), Wb.gd_cross3, by decide, by decide, by decide, rfl⟩
    · exact ab_nil ⟨j, E, n, hj, gE, l5, l6, n5, rfl⟩
  clear hj gE l5 l6 n5 n3
  rintro e cc ⟨j, E, n, hj, gE, l5, l6, n5, rfl⟩
  obtain ⟨⟨a2, b2, c2, q0⟩, qj, qE⟩ := id hj
  refine ab_cons (as_range rfl PassesOwn.never rfl B.rng (pg_name (i := 5) scCro.nd rfl (Or.inl rfl)) tg_name ?_)
  refine ax_callJ (ok_dip D1.F B) gd (hr.mono (by decide)) rfl D1.g D1.F.kp D1.b ?_ (mono := m_dip)
  walk_at "go"
  refine ⟨E.map pairD, qE, ?_⟩
  walk_at "go"
  refine ⟨0, _, rfl, ?_⟩
  walk_at "go"
  refine ⟨rfl, _, q0, a2, b2, c2, _, rfl, rfl, by rw [List.length_map]; omega, by rw [List.length_map]; omega, fun y a3 b3 c3 y0 y1 => ?_⟩
  rw [List.length_map] at y1
  have hj3 := hj.dip (a := a3) (b := b3) (d := c3)
  refine ⟨y, rfl, by omega, by omega, fun i e cc => ∃ (E1 : List (Nat × Nat)) (n1 : Nat), Jn1 cc j E1 ∧ Wb.Gd E1 n1 ∧ E1.length = E.length + i ∧ n1 ≤ 5 + i ∧ ∃ y5 y6 y7 y8, e = [some (.ow 0), some (.im (.int 8)), some (.ow j), some (.im (.int (n1 : Int))), some (.im (.int x)), y5, y6, y7, y8], ⟨E, n, hj3, gE, rfl, by omega, _, _, _, _, rfl⟩, ?_, ?_⟩
  · rintro i e cc hi ⟨E1, n1, h1, g1, hE, hn, y5, y6, y7, y8, rfl⟩
    obtain ⟨⟨a4, b4, c4, p0⟩, pj, pE⟩ := id h1
    refine ⟨Nat.le_of_ble_eq_true rfl, ?_⟩
    refine ab_cons (as_set 6 scCro.nd rfl (.inl rfl) (Nat.le_of_ble_eq_true rfl) ?_)
    refine ax_callJ (ok_dip D1.F B) gd (hr.mono (by decide)) rfl D1.g D1.F.kp D1.b ?_ (mono := m_dip)
    walk_at "go"
    refine ⟨E1.map pairD, pE, ?_⟩
    walk_at "go"
    refine ⟨0, _, rfl, ?_⟩
    walk_at "go"
    refine ⟨rfl, _, p0, a4, b4, c4, _, rfl, rfl, by rw [List.length_map]; omega, by rw [List.length_map]; omega, fun at_ a5 b5 c5 at0 at1 => ?_⟩
    rw [List.length_map] at at1
    obtain ⟨k, rfl⟩ := Int.eq_ofNat_of_zero_le at0
    have lt : k < E1.length := by omega
    obtain ⟨lo, hi2, ej⟩ : ∃ lo hi, E1[k]? = some (lo, hi) := ⟨E1[k].1, E1[k].2, List.getElem?_eq_getElem lt⟩
    have ed : (E1.map pairD)[k]? = some (pairD (lo, hi2)) := by rw [List.getElem?_map, ej]; rfl
    have h2 := h1.dip (a := a5) (b := b5) (d := c5)
    obtain ⟨⟨_, _, _, r0⟩, rj, rE⟩ := id h2
    refine ab_cons (as_unp (pg_lst rfl (pgs_cons (pg_name (i := 7) scCro.nd rfl (Or.inl rfl)) (pgs_cons (pg_name (i := 8) scCro.nd rfl (Or.inl rfl)) pgs_nil))) (tg_lst (tgs_cons tg_name (tgs_cons tg_name tgs_nil))) ?_)
    walk_at "go"
    refine oIx rE (atI_of rfl ed) ?_
    refine ⟨_, rfl, _, rfl, rfl, _, _, rfl, ⟨Nat.le_of_ble_eq_true rfl, _, _, rfl, ⟨Nat.le_of_ble_eq_true rfl, rfl, ?_⟩⟩⟩
    refine ab_one (as_if (at_eq hu ?_))
    refine ax_callJ (ok_dip D1.F B) gd (hr.mono (by decide)) rfl D1.g D1.F.kp D1.b ?_ (mono := m_dip)
    walk_at "go"
    refine ⟨0, _, rfl, ?_⟩
    walk_at "go"
    refine ⟨rfl, _, r0, _, _, _, 2, rfl, rfl, by decide, by decide, fun z a6 b6 c6 z0 z1 => ?_⟩
    have h3 := h2.dip (a := a6) (b := b6) (d := c6)
    obtain ⟨⟨_, _, _, s0⟩, sj, sE⟩ := id h3
    walk_at "go"
    refine ⟨fun _ => ?_, fun _ => ?_⟩
    · refine ab_one (as_expr (ax_append ?_))
      walk_at "go"
      refine ⟨j, _, rfl, sE, ?_⟩
      walk_at "go"
      refine ⟨_, _, rfl, sE, by rw [List.length_map]; omega, ?_⟩
      refine ⟨E1 ++ [(lo, hi2)], n1, h3.put (by rw [List.map_append]; rfl), g1.beside ej, by rw [List.length_append, List.length_singleton]; omega, by omega, _, _, _, _, rfl⟩
    · refine ab_cons (as_item ?_)
      walk_at "go"
      refine ⟨_, j, _, _, k, rfl, rfl, rfl, sE, ixN_of rfl (by rw [List.length_map]; exact lt), ?_⟩
      have h4 := h3.put (E' := E1.set k (lo, n1)) (l := (E1.map pairD).set k (pairD (lo, n1))) (by rw [List.map_set])
      obtain ⟨_, tj, tE⟩ := id h4
      refine ab_cons (as_expr (ax_append ?_))
      walk_at "go"
      refine ⟨j, _, rfl, tE, ?_⟩
      walk_at "go"
      refine ⟨_, _, rfl, tE, by rw [List.length_map, List.length_set]; omega, ?_⟩
      refine ab_one (as_set 3 scCro.nd rfl (.inl rfl) (Nat.le_of_ble_eq_true rfl) ?_)
      walk_at "go"
      refine ⟨E1.set k (lo, n1) ++ [(n1, hi2)], n1 + 1, h4.put (by rw [List.map_append]; rfl), g1.parted ej, by rw [List.length_append, List.length_set, List.length_singleton]; omega, by omega, _, _, _, _, rfl⟩
  · rintro e cc ⟨E1, n1, h1, g1, hE, hn, y5, y6, y7, y8, rfl⟩
    obtain ⟨⟨a4, b4, c4, p0⟩, pj, pE⟩ := id h1
    refine ab_frz j _ pE ?_
    have t0 : ∀ d : Da, thaw j d (some (.ow 0)) = some (.ow 0) := fun d => by
      unfold thaw
      dsimp only
      rw [if_neg (Ne.symm pj)]
    have tj : ∀ d : Da, thaw j d (some (.ow j)) = some (.im d) := fun d => by
      unfold thaw
      dsimp only
      rw [if_pos rfl]
    simp only [List.map_cons, List.map_nil]
    rw [t0, tj]
    have q0' : (cc.set j none)[0]? = some (some [.int a4, .int b4, .int c4]) := by
      rw [List.getElem?_set_ne pj]
      exact p0
    refine ab_one (as_ret ?_)
    refine ax_callJ O2 gd hr rfl D2.g D2.F.kp D2.b ?_ (mono := m_ren)
    walk_at "go"
    refine ⟨0, _, rfl, ?_⟩
    walk_at "go"
    refine ⟨rfl, _, q0', a4, b4, c4, E1, n1, rfl, rfl, g1, by omega, by omega, by omega, fun R s t g a' b' c' => ?_⟩
    refine ⟨webD R s t, [.int a', .int b', .int c'], (cc.set j none).tail, rfl, ?_, hk R s t g a' b' c'⟩
    have lt0 := (List.getElem?_eq_some_iff.mp q0').1
    cases hcc : cc.set j none with
    | nil =>
      rw [hcc] at lt0
      cases lt0
    | cons u v => rfl
end
end Kw
namespace Kw
theorem asc_eq : ∀ {a b : List Int}, a.Pairwise (· < ·) → b.Pairwise (· < ·) → (∀ k, k ∈ a ↔ k ∈ b) → a = b
  | [], [], _, _, _ => rfl
  | [], y :: b, _, _, h => nomatch (h y).mpr (List.mem_cons_self ..)
  | x :: a, [], _, _, h => nomatch (h x).mp (List.mem_cons_self ..)
  | x :: a, y :: b, ha, hb, h => by
    have ha' := List.pairwise_cons.mp ha
    have hb' := List.pairwise_cons.mp hb
    have e : x = y := by
      rcases List.mem_cons.mp ((h x).mp (List.mem_cons_self ..)) with e | m
      · exact e
      · rcases List.mem_cons.mp ((h y).mpr (List.mem_cons_self ..)) with e2 | m2
        · exact e2.symm
        · have := hb'.1 x m
          have := ha'.1 y m2
          omega
    subst e
    rw [asc_eq ha'.2 hb'.2 fun k => ⟨fun m => ?_, fun m => ?_⟩]
    · rcases List.mem_cons.mp ((h k).mp (List.mem_cons_of_mem _ m)) with e | m2
      · have := ha'.1 k m
        omega
      · exact m2
    · rcases List.mem_cons.mp ((h k).mpr (List.mem_cons_of_mem _ m)) with e | m2
      · have := hb'.1 k m
        omega
      · exact m2
def natD (l : List Nat) : List Da := l.map fun i : Nat => Da.int (i : Int)
theorem way_ints (w : List Nat) : wayD w = intsD (w.map fun i : Nat => (i : Int)) := by
  unfold wayD intsD
  rw [List.map_map]
  rfl
theorem cast_asc {l : List Nat} (h : l.Pairwise (· < ·)) : (l.map fun i : Nat => (i : Int)).Pairwise (· < ·) := by
  rw [List.pairwise_map]
  exact h.imp fun q => by omega
abbrev sUs : Stmt := topS 18
theorem scUs : FnScope ["origin", "goal", "roads", "way", "index"] ["origin", "goal", "roads"] (defScope sUs) := ⟨rfl, rfl, rfl, by decide +kernel, rfl, by decide +kernel, by decide +kernel⟩
def compSc (l : List Str) : Scope := { kind := ScopeKind.function, names := (".0", .local) :: l.map fun x => (x, NameKind.local), isGenerator := false, isCoroutine := false }
theorem blkUs : BlkOk ["origin", "goal", "roads", "way", "index"] (defScope sUs) (compSc ["way", "index"]) [("way", 3), ("index", 4)] := blkOk_by (by decide +kernel)
def fUs : Ph := fun ds k kx => ∃ R s t, ds = [sgn s, sgn t, .tup (R.map rdD)] ∧ R.length ≤ 8 ∧ k (.lst (natD (usedW R s t)))
theorem m_us : ∀ ds k1 k2 x1 x2, fUs ds k1 x1 → (∀ d, k1 d → k2 d) → (∀ c ks es, x1 c ks es → x2 c ks es) → fUs ds k2 x2 := by
  rintro ds k1 k2 x1 x2 ⟨R, s, t, h1, h2, h3⟩ h _
  exact ⟨R, s, t, h1, h2, h _ h3⟩
section
variable {ca : Str → Addr} {P : Program} {w : World} {K : PySem.W.Frag} {mg : Str → Option Value} {base : Heap}
theorem ok_us {f f1 f2 f3 : Addr} {fd fd1 fd2 fd3 : FuncData} (F : Fun K "used_indexes" "used_indexes" sUs f fd) (B : Tb mg) (D1 : Dd K mg "routes_on" sRo ["place", "goal", "roads", "met", "begun"] f1 fd1) (D2 : Dd K mg "other_end" sOe ["road", "place"] f2 fd2) (D3 : Dd K mg "routes" sRts ["origin", "goal", "roads"] f3 fd3) :
    FnG P w K mg base CX0 21 f fd ["origin", "goal", "roads"] (spP ca K 3 fUs) := by
  have ms := B.srt
  refine fnP F scUs rfl (fun cdv A outer s H E ds kd gd hr hl hφ => ?_) m_us
  obtain ⟨R, s, t, rfl, h8, hk⟩ := hφ
  refine ab_one (as_ret (ax_al (al_uni 3 4 rfl scUs.nd rfl ms blkUs (by decide) (Nat.le_of_ble_eq_true rfl) (Nat.le_of_ble_eq_true rfl) (fun _ _ _ _ _ => pg_name (i := 3) scUs.nd rfl (Or.inl rfl)) (fun _ _ _ _ _ => pg_name (i := 4) scUs.nd rfl (Or.inl rfl))
    (fun _ _ _ _ _ => pe_var (i := 3) rfl (.inl rfl)) (fun _ _ _ _ _ => pe_var (i := 4) rfl (.inl rfl)) ?_)))
  refine ax_callP (ok_rts D3.F B D1 D2) gd hr rfl D3.g D3.F.kp D3.b ?_ (mono := m_rts)
  refine aa_cons ?_
  walk_at "av"
  refine aa_cons ?_
  walk_at "av"
  refine aa_cons ?_
  walk_at "av"
  refine aa_nil ?_
  refine ⟨rfl, R, s, t, rfl, h8, ?_⟩
  refine ⟨(allW R s t).map fun w => w.map fun i : Nat => (i : Int), ?_, fun w hw k hkw => ?_, fun ns hs hm => ?_⟩
  · rw [List.map_map]
    congr 3
    exact funext fun w => way_ints w
  · obtain ⟨u, hu, rfl⟩ := List.mem_map.mp hw
    obtain ⟨i, hi, rfl⟩ := List.mem_map.mp hkw
    have := used_lt hu i hi
    omega
  · have e : ns = (usedW R s t).map fun i : Nat => (i : Int) := asc_eq hs (cast_asc usedW_asc) fun k => by
      rw [hm k, List.mem_map]
      constructor
      · rintro ⟨w, hw, hkw⟩
        obtain ⟨u, hu, rfl⟩ := List.mem_map.mp hw
        obtain ⟨i, hi, rfl⟩ := List.mem_map.mp hkw
        exact ⟨i, usedW_mem.mpr ⟨u, hu, hi⟩, rfl⟩
      · rintro ⟨i, hi, rfl⟩
        obtain ⟨u, hu, hiu⟩ := usedW_mem.mp hi
        exact ⟨_, List.mem_map.mpr ⟨u, hu, rfl⟩, List.mem_map.mpr ⟨i, hiu, rfl⟩⟩
    subst e
    rw [List.map_map]
    exact ⟨_, rfl, hk⟩
end
end Kw
namespace Kw
/-! ### going on layer by layer: mathematics -/
theorem flat_perm {α β : Type} {f g : α → List β} : ∀ l : List α, (l.flatMap fun x => f x ++ g x).Perm (l.flatMap f ++ l.flatMap g)
  | [] => List.Perm.refl _
  | x :: l => by
    rw [List.flatMap_cons, List.flatMap_cons, List.flatMap_cons]
    have ih := flat_perm (f := f) (g := g) l
    refine ((List.Perm.refl (f x ++ g x)).append ih).trans ?_
    rw [List.append_assoc, List.append_assoc]
    refine (List.Perm.refl (f x)).append ?_
    rw [← List.append_assoc, ← List.append_assoc]
    exact List.perm_append_comm.append (List.Perm.refl _)
/-- a way begun: its roads, the places met ahead of the last one, the last one -/
structure Bg where
  b : List Nat
  y : List Nat
  u : Nat
def Bg.z (p : Bg) : List Nat := p.y ++ [p.u]
def bgD (p : Bg) : Da := .tup [wayD p.b, .str (zS p.z)]
/-- what k makes of it: a way to t -/
def fSt (R : List Rd) (t : Nat) (p : Bg) (k : Nat) : List (List Nat) := match R[k]? with
  | some r => if (p.u = r.lo ∨ p.u = r.hi) ∧ farR r p.u = t then [p.b ++ [k]] else []
  | none => []
/-- .. a longer beginning -/
def lSt (R : List Rd) (t : Nat) (p : Bg) (k : Nat) : List Bg := match R[k]? with
  | some r => if (p.u = r.lo ∨ p.u = r.hi) ∧ farR r p.u ≠ t ∧ farR r p.u ∉ p.z then [⟨p.b ++ [k], p.z, farR r p.u⟩] else []
  | none => []
def ext (R : List Rd) (t n : Nat) (p : Bg) : List (List Nat) := rts R t n p.u p.z p.b
theorem st_eq {R : List Rd} {t n : Nat} {p : Bg} {k : Nat} (ht : t ∉ p.z) : stp R t (n + 1) p.u p.z p.b k = fSt R t p k ++ (lSt R t p k).flatMap (ext R t (n + 1)) := by
  unfold stp fSt lSt
  cases q : R[k]? with
  | none => rfl
  | some r =>
    dsimp only
    by_cases c : p.u = r.lo ∨ p.u = r.hi
    · by_cases e : farR r p.u = t
      · rw [e, if_pos ⟨c, ht⟩, if_pos ⟨c, rfl⟩, if_neg fun z => z.2.1 rfl, rts, if_pos rfl]
        simp
      · by_cases m : farR r p.u ∈ p.z
        · rw [if_neg fun z => z.2 m, if_neg fun z => e z.2, if_neg fun z => z.2.2 m]
          rfl
        · rw [if_pos ⟨c, m⟩, if_neg fun z => e z.2, if_pos ⟨c, e, m⟩]
          simp [ext, Bg.z]
    · rw [if_neg fun z => c z.1, if_neg fun z => c z.1, if_neg fun z => c z.1]
      rfl
/-- what holds of the beginnings of n roads -/
structure BgOk (R : List Rd) (t n : Nat) (p : Bg) : Prop where
  ut : p.u ≠ t
  tz : t ∉ p.z
  len : p.b.length = n
  zl : p.y.length = n
  op : open_ R p.z + n ≤ R.length
theorem ext_eq {R : List Rd} {t n m : Nat} {p : Bg} (h : BgOk R t m p) : (ext R t (n + 2) p).Perm ((List.range R.length).flatMap (fSt R t p) ++ ((List.range R.length).flatMap (lSt R t p)).flatMap (ext R t (n + 1))) := by
  have e : ext R t (n + 2) p = (List.range R.length).flatMap fun k => fSt R t p k ++ (lSt R t p k).flatMap (ext R t (n + 1)) := by
    unfold ext
    rw [rts_eq h.ut]
    exact flat_congr fun k _ => st_eq h.tz
  rw [e]
  refine (flat_perm _).trans ?_
  rw [List.flatMap_assoc]
theorem lst_ok {R : List Rd} {t n k : Nat} {p q : Bg} (h : BgOk R t n p) (hq : q ∈ lSt R t p k) : BgOk R t (n + 1) q := by
  unfold lSt at hq
  cases e : R[k]? with
  | none =>
    rw [e] at hq
    cases hq
  | some r =>
    rw [e] at hq
    dsimp only at hq
    by_cases c : (p.u = r.lo ∨ p.u = r.hi) ∧ farR r p.u ≠ t ∧ farR r p.u ∉ p.z
    · rw [if_pos c] at hq
      have eq := List.mem_singleton.mp hq
      subst eq
      have lt : open_ R (p.z ++ [farR r p.u]) < open_ R p.z := open_lt e (List.mem_append_right _ (List.mem_singleton.mpr rfl) : p.u ∈ p.z) c.1 c.2.2
      have op := h.op
      refine ⟨c.2.1, ?_, by rw [List.length_append, List.length_singleton, h.len], by show p.z.length = n + 1; unfold Bg.z; rw [List.length_append, List.length_singleton, h.zl], ?_⟩
      · show t ∉ p.z ++ [farR r p.u]
        intro m
        rcases List.mem_append.mp m with m | m
        · exact h.tz m
        · exact c.2.1 (List.mem_singleton.mp m).symm
      · show open_ R (p.z ++ [farR r p.u]) + (n + 1) ≤ R.length
        omega
    · rw [if_neg c] at hq
      cases hq
theorem flat_le {α : Type} {f : Nat → List α} {p : Nat → Bool} : ∀ {l : List Nat}, (∀ i ∈ l, (f i).length ≤ if p i = true then 1 else 0) → (l.flatMap f).length ≤ l.countP p
  | [], _ => Nat.zero_le _
  | i :: l, h => by
    have ih := flat_le (f := f) (p := p) (l := l) fun j hj => h j (List.mem_cons_of_mem _ hj)
    have h1 := h i (List.mem_cons_self ..)
    rw [List.flatMap_cons, List.length_append, List.countP_cons]
    by_cases c : p i = true
    · rw [if_pos c] at h1 ⊢
      omega
    · rw [if_neg c] at h1 ⊢
      omega
theorem lst_few {R : List Rd} {t n : Nat} {p : Bg} (h : BgOk R t n p) : ((List.range R.length).flatMap (lSt R t p)).length ≤ R.length - n := by
  have z : ((List.range R.length).flatMap (lSt R t p)).length ≤ (List.range R.length).countP fun i => (R[i]?).any fun r => !(p.z.contains r.lo && p.z.contains r.hi) := by
    refine flat_le fun i _ => ?_
    unfold lSt
    cases e : R[i]? with
    | none => exact Nat.zero_le _
    | some r =>
      dsimp only
      by_cases c : (p.u = r.lo ∨ p.u = r.hi) ∧ farR r p.u ≠ t ∧ farR r p.u ∉ p.z
      · have cond : ((some r).any fun r => !(p.z.contains r.lo && p.z.contains r.hi)) = true := by
          show (!(p.z.contains r.lo && p.z.contains r.hi)) = true
          rw [Bool.not_eq_true', Bool.and_eq_false_iff]
          have hv := c.2.2
          unfold farR at hv
          by_cases e : p.u = r.lo
          · rw [if_pos e] at hv
            exact .inr (Bool.eq_false_iff.mpr fun q => hv (List.contains_iff_mem.mp q))
          · rw [if_neg e] at hv
            exact .inl (Bool.eq_false_iff.mpr fun q => hv (List.contains_iff_mem.mp q))
        rw [if_pos c, if_pos cond]
        exact Nat.le_refl _
      · rw [if_neg c]
        exact Nat.zero_le _
  rw [count_range] at z
  have o := h.op
  have e : R.countP (fun r => !(p.z.contains r.lo && p.z.contains r.hi)) = open_ R p.z := rfl
  rw [e] at z
  omega
/-- how many beginnings there may be -/
def many : Nat → Nat
  | 0 => 1
  | n + 1 => many n * (8 - n)
theorem many_le {n : Nat} (h : n ≤ 8) : many n ≤ 40320 := by
  have z : ∀ n, n < 9 → many n ≤ 40320 := by decide
  exact z n (by omega)
theorem flat_mul {α β : Type} {f : α → List β} {M : Nat} : ∀ {l : List α}, (∀ x ∈ l, (f x).length ≤ M) → (l.flatMap f).length ≤ l.length * M
  | [], _ => Nat.zero_le _
  | x :: l, h => by
    have ih := flat_mul (f := f) (l := l) fun j hj => h j (List.mem_cons_of_mem _ hj)
    have h1 := h x (List.mem_cons_self ..)
    rw [List.flatMap_cons, List.length_append, List.length_cons, Nat.add_mul]
    omega
/-- what holds at the turn n -/
structure Lay (R : List Rd) (s t n : Nat) (fnd : List (List Nat)) (lay : List Bg) : Prop where
  ok : ∀ p ∈ lay, BgOk R t n p
  few : lay.length ≤ many n
  perm : (fnd ++ lay.flatMap (ext R t (17 - n))).Perm (allW R s t)
theorem Lay.start {R : List Rd} {s t : Nat} (h : s ≠ t) : Lay R s t 0 [] [⟨[], [], s⟩] := by
  refine ⟨fun p hp => ?_, Nat.le_refl _, ?_⟩
  · rw [List.mem_singleton.mp hp]
    exact ⟨h, fun m => h (List.mem_singleton.mp m).symm, rfl, rfl, List.countP_le_length⟩
  · rw [List.nil_append, List.flatMap_cons, List.flatMap_nil, List.append_nil]
    exact List.Perm.refl _
def lF (R : List Rd) (t : Nat) (p : Bg) : List (List Nat) := (List.range R.length).flatMap (fSt R t p)
def lL (R : List Rd) (t : Nat) (p : Bg) : List Bg := (List.range R.length).flatMap (lSt R t p)
theorem flat_permc {α β : Type} {f g : α → List β} : ∀ {l : List α}, (∀ x ∈ l, (f x).Perm (g x)) → (l.flatMap f).Perm (l.flatMap g)
  | [], _ => List.Perm.refl _
  | x :: l, h => by
    rw [List.flatMap_cons, List.flatMap_cons]
    exact (h x (List.mem_cons_self ..)).append (flat_permc fun y hy => h y (List.mem_cons_of_mem _ hy))
theorem Lay.next {R : List Rd} {s t n : Nat} {fnd : List (List Nat)} {lay : List Bg} (h : Lay R s t n fnd lay) (hn : n < R.length) (h8 : R.length ≤ 8) : Lay R s t (n + 1) (fnd ++ lay.flatMap (lF R t)) (lay.flatMap (lL R t)) := by
  refine ⟨fun q hq => ?_, ?_, ?_⟩
  · obtain ⟨p, hp, hq⟩ := List.mem_flatMap.mp hq
    obtain ⟨k, _, hq⟩ := List.mem_flatMap.mp hq
    exact lst_ok (h.ok p hp) hq
  · refine Nat.le_trans (flat_mul (M := 8 - n) fun p hp => ?_) (Nat.mul_le_mul_right _ h.few)
    have := lst_few (h.ok p hp)
    show ((List.range R.length).flatMap (lSt R t p)).length ≤ 8 - n
    omega
  · refine List.Perm.trans ?_ h.perm
    have e1 : 17 - n = (15 - n) + 2 := by omega
    have e2 : 17 - (n + 1) = (15 - n) + 1 := by omega
    rw [e1, e2, List.append_assoc]
    refine (List.Perm.refl fnd).append ?_
    refine List.Perm.symm ?_
    refine (flat_permc fun p hp => ext_eq (n := 15 - n) (h.ok p hp)).trans ?_
    refine (flat_perm (f := lF R t) (g := fun p => (lL R t p).flatMap (ext R t (15 - n + 1))) lay).trans ?_
    rw [List.flatMap_assoc]
theorem Lay.len {R : List Rd} {s t n : Nat} {fnd : List (List Nat)} {lay : List Bg} (h : Lay R s t n fnd lay) (h8 : R.length ≤ 8) : fnd.length ≤ 109601 := by
  have z := h.perm.length_eq
  rw [List.length_append] at z
  have b := rts_8 (R := R) (t := t) (n := 17) (u := s) (b := []) h8
  have e : (allW R s t).length = (rts R t 17 s [s] []).length := rfl
  omega
/-- behind as many turns as there are roads nothing is left -/
theorem Lay.done {R : List Rd} {s t : Nat} {fnd : List (List Nat)} {lay : List Bg} (h : Lay R s t R.length fnd lay) : fnd.Perm (allW R s t) := by
  have e : lay.flatMap (ext R t (17 - R.length)) = [] := by
    refine List.eq_nil_iff_forall_not_mem.mpr fun c hc => ?_
    have ca := h.perm.mem_iff.mp (List.mem_append_right fnd hc)
    obtain ⟨p, hp, hc⟩ := List.mem_flatMap.mp hc
    have po := h.ok p hp
    unfold ext at hc
    rw [rts_dfs _ _ _ _ _ fun x => Iff.rfl] at hc
    obtain ⟨is, ec, wk⟩ := Wb.dfs_wk _ _ _ _ _ hc
    unfold allW at ca
    rw [rts_dfs _ _ _ _ _ fun x => Iff.rfl] at ca
    obtain ⟨js, ej, wj⟩ := Wb.dfs_wk _ _ _ _ _ ca
    rw [List.nil_append] at ej
    have short := wj.short (List.mem_singleton.mpr rfl)
    rw [← ej, ec, List.length_append, po.len, show (prs R).length = R.length from List.length_map ..] at short
    have ei : is = [] := List.eq_nil_of_length_eq_zero (by omega)
    subst ei
    cases wk with
    | nil => exact po.ut rfl
  have z := h.perm
  rw [e, List.append_nil] at z
  exact z
/-! ### the ways ascend -/
def nI (w : List Nat) : List Int := w.map fun i : Nat => (i : Int)
theorem ltL_pre {b : List Int} {x y : List Int} : ltL (b ++ x) (b ++ y) = ltL x y := by
  induction b with
  | nil => rfl
  | cons a b ih =>
    show ltL (a :: (b ++ x)) (a :: (b ++ y)) = _
    rw [ltL_cons, if_pos rfl, ih]
theorem pair_flat {α β : Type} {S : β → β → Prop} {f : α → List β} : ∀ {l : List α}, (∀ x ∈ l, (f x).Pairwise S) → l.Pairwise (fun x y => ∀ a ∈ f x, ∀ b ∈ f y, S a b) → (l.flatMap f).Pairwise S
  | [], _, _ => by simp
  | x :: l, h, hp => by
    rw [List.flatMap_cons, List.pairwise_append]
    have hp' := List.pairwise_cons.mp hp
    refine ⟨h x (List.mem_cons_self ..), pair_flat (fun y hy => h y (List.mem_cons_of_mem _ hy)) hp'.2, fun a ha b hb => ?_⟩
    obtain ⟨y, hy, hb⟩ := List.mem_flatMap.mp hb
    exact hp'.1 y hy a ha b hb
theorem rts_pre {R : List Rd} {t : Nat} {n u : Nat} {z b c : List Nat} (h : c ∈ rts R t n u z b) : ∃ is, c = b ++ is := by
  rw [rts_dfs _ _ _ _ _ fun x => Iff.rfl] at h
  obtain ⟨is, e, _⟩ := Wb.dfs_wk _ _ _ _ _ h
  exact ⟨is, e⟩
theorem stp_pre {R : List Rd} {t n u k : Nat} {z b c : List Nat} (h : c ∈ stp R t n u z b k) : ∃ is, c = b ++ k :: is := by
  unfold stp at h
  cases q : R[k]? with
  | none =>
    rw [q] at h
    cases h
  | some r =>
    rw [q] at h
    dsimp only at h
    split at h
    · obtain ⟨is, e⟩ := rts_pre h
      exact ⟨is, by rw [e, List.append_assoc]; rfl⟩
    · cases h
theorem rts_asc {R : List Rd} {t : Nat} : ∀ (n u : Nat) (z b : List Nat), (rts R t n u z b).Pairwise fun v w => ltL (nI v) (nI w) = true
  | 0, u, z, b => by
    rw [rts]
    exact .nil
  | n + 1, u, z, b => by
    by_cases e : u = t
    · rw [rts, if_pos e]
      exact List.pairwise_singleton _ _
    · rw [rts_eq e]
      refine pair_flat (fun k _ => ?_) (List.pairwise_lt_range.imp fun {i j} lt v hv w hw => ?_)
      · unfold stp
        cases q : R[k]? with
        | none => exact .nil
        | some r =>
          dsimp only
          split
          · exact rts_asc n _ _ _
          · exact .nil
      · obtain ⟨is, ev⟩ := stp_pre hv
        obtain ⟨js, ew⟩ := stp_pre hw
        rw [ev, ew]
        unfold nI
        rw [List.map_append, List.map_append, ltL_pre, List.map_cons, List.map_cons, ltL_cons, if_neg (by omega)]
        exact decide_eq_true (by omega)
theorem allW_asc {R : List Rd} {s t : Nat} : ((allW R s t).map nI).Pairwise fun n m => ltL m n = false := by
  rw [List.pairwise_map]
  exact (rts_asc 17 s [s] []).imp fun h => ltL_asym h
theorem asc_uniq : ∀ {l m : List (List Int)}, l.Perm m → (l.Pairwise fun n m => ltL m n = false) → (m.Pairwise fun n m => ltL m n = false) → l = m
  | [], m, p, _, _ => p.symm.eq_nil.symm
  | x :: l, [], p, _, _ => absurd p.length_eq (by simp)
  | x :: l, y :: m, p, hl, hm => by
    have hl' := List.pairwise_cons.mp hl
    have hm' := List.pairwise_cons.mp hm
    have e : x = y := by
      rcases List.mem_cons.mp (p.mem_iff.mp (List.mem_cons_self ..)) with e | m1
      · exact e
      · rcases List.mem_cons.mp (p.mem_iff.mpr (List.mem_cons_self ..)) with e2 | m2
        · exact e2.symm
        · exact ltL_eq (hm'.1 x m1) (hl'.1 y m2)
    subst e
    rw [asc_uniq p.cons_inv hl'.2 hm'.2]
theorem allW_ne {R : List Rd} {s t : Nat} (h : s ≠ t) : ∀ w ∈ allW R s t, w ≠ [] := by
  intro w hw e
  subst e
  unfold allW at hw
  rw [rts_dfs _ _ _ _ _ fun x => Iff.rfl] at hw
  obtain ⟨is, ei, wk⟩ := Wb.dfs_wk _ _ _ _ _ hw
  rw [List.nil_append] at ei
  subst ei
  cases wk with
  | nil => exact h rfl
end Kw
namespace Kw
abbrev sEnd : Stmt := topS 38
theorem scEnd : FnScope ["street", "spot"] ["street", "spot"] (defScope sEnd) := ⟨rfl, rfl, rfl, by decide +kernel, rfl, by decide +kernel, by decide +kernel⟩
abbrev sRuns : Stmt := topS 39
theorem scRuns : FnScope ["ends_here", "streets", "found", "layer", "turn", "later", "run", "spots", "k", "spot"] ["ends_here", "streets"] (defScope sRuns) := ⟨rfl, rfl, rfl, by decide +kernel, rfl, by decide +kernel, by decide +kernel⟩
def fRuns : Ph := fun ds k kx => ∃ R s t, ds = [.tup [sgn s, sgn t], .tup (R.map rdD)] ∧ R.length ≤ 8 ∧ s ≠ t ∧ k (.lst ((allW R s t).map wayD))
theorem m_runs : ∀ ds k1 k2 x1 x2, fRuns ds k1 x1 → (∀ d, k1 d → k2 d) → (∀ c ks es, x1 c ks es → x2 c ks es) → fRuns ds k2 x2 := by
  rintro ds k1 k2 x1 x2 ⟨R, s, t, h1, h2, h3, h4⟩ h _
  exact ⟨R, s, t, h1, h2, h3, h _ h4⟩
theorem cG {a b : List Da} {mid : Cells} : (some a :: mid ++ [some b])[mid.length + 1]? = some (some b) := by
  show (mid ++ [some b])[mid.length]? = _
  rw [List.getElem?_append_right (Nat.le_refl _), Nat.sub_self]
  rfl
theorem cS {a b : List Da} {mid : Cells} {x : Option (List Da)} : (some a :: mid ++ [some b]).set (mid.length + 1) x = some a :: mid ++ [x] := by
  show some a :: (mid ++ [some b]).set mid.length x = some a :: (mid ++ [x])
  rw [List.set_append_right _ _ (Nat.le_refl _), Nat.sub_self]
  rfl
theorem zS_last {y : List Nat} {u : Nat} : atI (zS (y ++ [u])).cps.toList (-1) = some u := by
  have e : (zS (y ++ [u])).cps.toList = y ++ [u] := by
    show (y ++ [u]).toArray.toList = _
    simp
  rw [e]
  unfold atI ixN
  rw [if_neg (by omega), if_pos (by rw [List.length_append, List.length_singleton]; omega)]
  show (y ++ [u])[_]? = _
  have e2 : (-1 + ((y ++ [u]).length : Int)).toNat = y.length := by rw [List.length_append, List.length_singleton]; omega
  rw [e2, List.getElem?_append_right (Nat.le_refl _), Nat.sub_self]
  rfl
theorem take_flat {α β : Type} {f : α → List β} {l : List α} {i : Nat} {x : α} (h : l[i]? = some x) : (l.take (i + 1)).flatMap f = (l.take i).flatMap f ++ f x := by
  rw [List.take_succ, h, List.flatMap_append]
  simp
theorem range_flat {β : Type} {f : Nat → List β} {i : Nat} : (List.range (i + 1)).flatMap f = (List.range i).flatMap f ++ f i := by
  rw [List.range_succ, List.flatMap_append]
  simp
theorem range_part {β : Type} {f : Nat → List β} (h : ∀ k, (f k).length ≤ 1) : ∀ i, ((List.range i).flatMap f).length ≤ i
  | 0 => Nat.le_refl _
  | i + 1 => by
    rw [range_flat, List.length_append]
    have := range_part h i
    have := h i
    omega
theorem fSt_one {R : List Rd} {t : Nat} {p : Bg} (k : Nat) : (fSt R t p k).length ≤ 1 := by
  unfold fSt
  split
  · split
    · exact Nat.le_refl _
    · exact Nat.zero_le _
  · exact Nat.zero_le _
theorem lSt_one {R : List Rd} {t : Nat} {p : Bg} (k : Nat) : (lSt R t p k).length ≤ 1 := by
  unfold lSt
  split
  · split
    · exact Nat.le_refl _
    · exact Nat.zero_le _
  · exact Nat.zero_le _
section
variable {ca : Str → Addr} {P : Program} {w : World} {K : PySem.W.Frag} {mg : Str → Option Value} {base : Heap}
theorem ok_end {f : Addr} {fd : FuncData} (D : Dd K mg "_law_end" sEnd ["street", "spot"] f fd) (B : Tb mg) : FnG P w K mg base CX0 1 f fd ["street", "spot"] (spP ca K 2 fOe) := by
  refine fnP D.F scEnd rfl (fun cdv A outer s H E ds kd gd hr hl hφ => ?_) m_oe
  obtain ⟨r, u, rfl, hk⟩ := hφ
  have hu := hr.units
  refine ab_one (as_ret (ax_if (at_eq hu ?_)))
  refine ax_ix ?_
  walk_at "av"
  refine ax_int ?_
  refine tIx rfl ?_
  walk_at "av"
  refine eqStr ?_
  refine ⟨_, rfl, fun h3 => ?_, fun h3 => ?_⟩
  · have e : u = r.lo := by
      have z1 : decide ((⟨#[r.lo]⟩ : Str) = ⟨#[u]⟩) = true := h3
      rw [sgn_eq] at z1
      exact (of_decide_eq_true z1).symm
    refine ax_ix ?_
    walk_at "av"
    refine ax_int ?_
    refine tIx rfl ?_
    exact ⟨_, rfl, by rw [farR, if_pos e] at hk; exact hk⟩
  · have e : u ≠ r.lo := by
      have z1 : decide ((⟨#[r.lo]⟩ : Str) = ⟨#[u]⟩) = false := h3
      rw [sgn_eq] at z1
      exact fun z => of_decide_eq_false z1 z.symm
    refine ax_ix ?_
    walk_at "av"
    refine ax_int ?_
    refine tIx rfl ?_
    exact ⟨_, rfl, by rw [farR, if_neg e] at hk; exact hk⟩
theorem ok_runs {f f1 : Addr} {fd fd1 : FuncData} (F : Fun K "_law_runs" "_law_runs" sRuns f fd) (B : Tb mg) (D1 : Dd K mg "_law_end" sEnd ["street", "spot"] f1 fd1) : FnG P w K mg base CX0 2 f fd ["ends_here", "streets"] (spP ca K 2 fRuns) := by
  have mlen := B.len
  have msrt := B.srt
  have mrng := B.rng
  refine fnP F scRuns rfl (fun cdv A outer s0 H E0 ds kd gd hr hl hφ => ?_) m_runs
  obtain ⟨R, s, t, rfl, h8, hst, hk⟩ := hφ
  have hu := hr.units
  -- found, layer = ([], [((), ends_here[0])])
  refine ab_cons (as_parLL 2 3 rfl scRuns.nd rfl rfl (by decide) rfl rfl (Nat.le_of_ble_eq_true rfl) (Nat.le_of_ble_eq_true rfl) ?_)
  refine al_lst (aa_nil ?_)
  refine ⟨Nat.le_of_ble_eq_true rfl, ?_⟩
  refine al_lst (aa_cons (ax_tup (aa_cons (ax_tup (aa_nil ?_)))))
  refine ⟨Nat.le_of_ble_eq_true rfl, ?_⟩
  refine aa_cons (ax_ix ?_)
  walk_at "av"
  refine ax_int ?_
  refine tIx rfl ?_
  refine aa_nil ?_
  refine ⟨Nat.le_of_ble_eq_true rfl, ?_⟩
  refine aa_nil ?_
  refine ⟨Nat.le_of_ble_eq_true rfl, ?_⟩
  -- for turn in range(len(streets))
  refine ab_cons (as_range rfl PassesOwn.never rfl mrng (pg_name (i := 4) scRuns.nd rfl (Or.inl rfl)) tg_name ?_)
  refine ax_len rfl mlen (aa_cons ?_)
  walk_at "av"
  refine aa_nil ?_
  refine lenT ?_
  rw [List.length_map]
  refine ⟨_, rfl, by omega, by omega, fun n e cc => ∃ (fnd : List (List Nat)) (lay : List Bg) (mid : Cells), cc = some (fnd.map wayD) :: mid ++ [some (lay.map bgD)] ∧ Lay R s t n fnd lay ∧
    ∃ y4 y5 y6 y7 y8 y9, e = [some (.im (.tup [sgn s, sgn t])), some (.im (.tup (R.map rdD))), some (.ow 0), some (.ow (mid.length + 1)), y4, y5, y6, y7, y8, y9], ⟨[], [⟨[], [], s⟩], [], rfl, Lay.start hst, _, _, _, _, _, _, rfl⟩, ?_, ?_⟩
  · rintro n e cc hn ⟨fnd, lay, mid, rfl, hL, y4, y5, y6, y7, y8, y9, rfl⟩
    have hn' : n < R.length := by omega
    have bF := hL.len h8
    have bL : lay.length ≤ 40320 := Nat.le_trans hL.few (many_le (by omega))
    refine ⟨Nat.le_of_ble_eq_true rfl, ?_⟩
    -- layer won't change any more
    refine ab_frz (mid.length + 1) _ cG ?_
    rw [cS]
    have envE : ([some (.im (.tup [sgn s, sgn t])), some (.im (.tup (R.map rdD))), some (.ow 0), some (.ow (mid.length + 1)), some (.im (.int (n : Int))), y5, y6, y7, y8, y9] : En).map (thaw (mid.length + 1) (.lst (lay.map bgD))) =
        [some (.im (.tup [sgn s, sgn t])), some (.im (.tup (R.map rdD))), some (.ow 0), some (.im (.lst (lay.map bgD))), some (.im (.int (n : Int))), thaw (mid.length + 1) (.lst (lay.map bgD)) y5, thaw (mid.length + 1) (.lst (lay.map bgD)) y6, thaw (mid.length + 1) (.lst (lay.map bgD)) y7, thaw (mid.length + 1) (.lst (lay.map bgD)) y8, thaw (mid.length + 1) (.lst (lay.map bgD)) y9] := by
      simp [thaw]
    refine (congrArg (fun z => AB _ _ _ z _ _) envE).mpr ?_
    generalize thaw (mid.length + 1) (.lst (lay.map bgD)) y5 = x5
    generalize thaw (mid.length + 1) (.lst (lay.map bgD)) y6 = x6
    generalize thaw (mid.length + 1) (.lst (lay.map bgD)) y7 = x7
    generalize thaw (mid.length + 1) (.lst (lay.map bgD)) y8 = x8
    generalize thaw (mid.length + 1) (.lst (lay.map bgD)) y9 = x9
    -- later = []
    refine ab_cons (as_cell 5 scRuns.nd rfl (.inl rfl) (Nat.le_of_ble_eq_true rfl) ?_)
    refine al_lst (aa_nil ?_)
    refine ⟨Nat.le_of_ble_eq_true rfl, ?_⟩
    have eL : (some (fnd.map wayD) :: mid ++ [none]).length = (mid ++ [none]).length + 1 := by simp
    have eC : (some (fnd.map wayD) :: mid ++ [none]) ++ [some []] = some (fnd.map wayD) :: (mid ++ [none]) ++ [some []] := by simp
    rw [eL, eC]
    generalize mid ++ [none] = md
    -- for run, spots in layer
    refine ab_cons (as_list rfl PassesOwn.never (pg_tup rfl (pgs_cons (pg_name (i := 6) scRuns.nd rfl (Or.inl rfl)) (pgs_cons (pg_name (i := 7) scRuns.nd rfl (Or.inl rfl)) pgs_nil))) (tg_tup (tgs_cons tg_name (tgs_cons tg_name tgs_nil))) ?_)
    walk_at "av"
    refine ⟨_, .inl rfl, fun i e cc => cc = some ((fnd ++ (lay.take i).flatMap (lF R t)).map wayD) :: md ++ [some (((lay.take i).flatMap (lL R t)).map bgD)] ∧
      ∃ w6 w7 w8 w9, e = [some (.im (.tup [sgn s, sgn t])), some (.im (.tup (R.map rdD))), some (.ow 0), some (.im (.lst (lay.map bgD))), some (.im (.int (n : Int))), some (.ow (md.length + 1)), w6, w7, w8, w9], ⟨by simp, _, _, _, _, rfl⟩, ?_, ?_⟩
    · rintro i d e cc hd ⟨rfl, w6, w7, w8, w9, rfl⟩
      rw [List.getElem?_map] at hd
      obtain ⟨p, hp, ed⟩ := Option.map_eq_some_iff.mp hd
      subst ed
      have li := (List.getElem?_eq_some_iff.mp hp).1
      have po := hL.ok p (List.mem_of_getElem? hp)
      have pl := po.len
      have pz : p.z.length = n + 1 := by unfold Bg.z; rw [List.length_append, List.length_singleton, po.zl]
      refine ⟨_, rfl, rfl, _, _, rfl, ⟨Nat.le_of_ble_eq_true rfl, _, _, rfl, ⟨Nat.le_of_ble_eq_true rfl, rfl, ?_⟩⟩⟩
      have tk : (lay.take i).length ≤ lay.length := by rw [List.length_take]; exact Nat.min_le_right _ _
      have bF2 : ((lay.take i).flatMap (lF R t)).length ≤ lay.length * 8 := Nat.le_trans (flat_mul (M := 8) fun q _ => Nat.le_trans (range_part fSt_one _) h8) (Nat.mul_le_mul_right _ tk)
      have bL2 : ((lay.take i).flatMap (lL R t)).length ≤ lay.length * 8 := Nat.le_trans (flat_mul (M := 8) fun q _ => Nat.le_trans (range_part lSt_one _) h8) (Nat.mul_le_mul_right _ tk)
      have eF : (lay.take (i + 1)).flatMap (lF R t) = (lay.take i).flatMap (lF R t) ++ (List.range R.length).flatMap (fSt R t p) := take_flat hp
      have eLl : (lay.take (i + 1)).flatMap (lL R t) = (lay.take i).flatMap (lL R t) ++ (List.range R.length).flatMap (lSt R t p) := take_flat hp
      generalize (lay.take i).flatMap (lF R t) = Fi at bF2 eF ⊢
      generalize (lay.take i).flatMap (lL R t) = Li at bL2 eLl ⊢
      -- for k in range(len(streets))
      refine ab_one (as_range rfl PassesOwn.never rfl mrng (pg_name (i := 8) scRuns.nd rfl (Or.inl rfl)) tg_name ?_)
      refine ax_len rfl mlen (aa_cons ?_)
      walk_at "av"
      refine aa_nil ?_
      refine lenT ?_
      rw [List.length_map]
      refine ⟨_, rfl, by omega, by omega, fun j e cc => cc = some ((fnd ++ Fi ++ (List.range j).flatMap (fSt R t p)).map wayD) :: md ++ [some ((Li ++ (List.range j).flatMap (lSt R t p)).map bgD)] ∧
        ∃ v8 v9, e = [some (.im (.tup [sgn s, sgn t])), some (.im (.tup (R.map rdD))), some (.ow 0), some (.im (.lst (lay.map bgD))), some (.im (.int (n : Int))), some (.ow (md.length + 1)), some (.im (wayD p.b)), some (.im (.str (zS p.z))), v8, v9], ⟨by simp, _, _, rfl⟩, ?_, ?_⟩
      · rintro j e cc hj ⟨rfl, v8, v9, rfl⟩
        have hj' : j < R.length := by omega
        obtain ⟨r, er⟩ : ∃ r, R[j]? = some r := ⟨R[j], List.getElem?_eq_getElem hj'⟩
        have erd : (R.map rdD)[j]? = some (rdD r) := by rw [List.getElem?_map, er]; rfl
        have b1 := range_part (f := fSt R t p) fSt_one j
        have b2 := range_part (f := lSt R t p) lSt_one j
        have fE : fSt R t p j = if (p.u = r.lo ∨ p.u = r.hi) ∧ farR r p.u = t then [p.b ++ [j]] else [] := by unfold fSt; rw [er]
        have lE : lSt R t p j = if (p.u = r.lo ∨ p.u = r.hi) ∧ farR r p.u ≠ t ∧ farR r p.u ∉ p.z then [⟨p.b ++ [j], p.z, farR r p.u⟩] else [] := by unfold lSt; rw [er]
        have same : fSt R t p j = [] → lSt R t p j = [] → ∀ e : En, (∃ v8 v9, e = [some (.im (.tup [sgn s, sgn t])), some (.im (.tup (R.map rdD))), some (.ow 0), some (.im (.lst (lay.map bgD))), some (.im (.int (n : Int))), some (.ow (md.length + 1)), some (.im (wayD p.b)), some (.im (.str (zS p.z))), v8, v9]) →
            (some ((fnd ++ Fi ++ (List.range j).flatMap (fSt R t p)).map wayD) :: md ++ [some ((Li ++ (List.range j).flatMap (lSt R t p)).map bgD)] = some ((fnd ++ Fi ++ (List.range (j + 1)).flatMap (fSt R t p)).map wayD) :: md ++ [some ((Li ++ (List.range (j + 1)).flatMap (lSt R t p)).map bgD)] ∧
              ∃ v8 v9, e = [some (.im (.tup [sgn s, sgn t])), some (.im (.tup (R.map rdD))), some (.ow 0), some (.im (.lst (lay.map bgD))), some (.im (.int (n : Int))), some (.ow (md.length + 1)), some (.im (wayD p.b)), some (.im (.str (zS p.z))), v8, v9]) := fun h1 h2 e h3 => by
          rw [range_flat, range_flat, h1, h2, List.append_nil, List.append_nil]
          exact ⟨rfl, h3⟩
        refine ⟨Nat.le_of_ble_eq_true rfl, ?_⟩
        refine ab_one (as_if (at_inT ?_))
        refine ax_ix ?_
        walk_at "av"
        refine ax_neg (ax_int ?_)
        refine ⟨1, rfl, ?_⟩
        refine ⟨by show p.z.toArray.size ≤ 16000000; rw [List.size_toArray]; omega, p.u, zS_last, ?_⟩
        refine ax_takeT (ax_ix ?_)
        walk_at "av"
        walk_at "av"
        refine tIx (atI_of rfl erd) ?_
        refine ax_int ?_
        refine ⟨2, _, rfl, rfl, Nat.le_of_ble_eq_true rfl, ?_⟩
        refine ⟨⟨#[p.u]⟩, [⟨#[r.lo]⟩, ⟨#[r.hi]⟩], rfl, .inr rfl, ?_⟩
        rw [inR]
        refine ⟨_, rfl, fun h2 => ?_, fun h2 => ?_⟩
        · have h2' : p.u = r.lo ∨ p.u = r.hi := of_decide_eq_true h2
          refine ab_cons (as_set 9 scRuns.nd rfl (.inl rfl) (Nat.le_of_ble_eq_true rfl) ?_)
          refine ax_callP (ok_end D1 B) gd (hr.mono (by decide)) rfl D1.g D1.F.kp D1.b ?_ (mono := m_oe)
          refine aa_cons (ax_ix ?_)
          walk_at "av"
          walk_at "av"
          refine tIx (atI_of rfl erd) ?_
          refine aa_cons (ax_ix ?_)
          walk_at "av"
          refine ax_neg (ax_int ?_)
          refine ⟨1, rfl, ?_⟩
          refine ⟨by show p.z.toArray.size ≤ 16000000; rw [List.size_toArray]; omega, p.u, zS_last, ?_⟩
          refine aa_nil ?_
          refine ⟨rfl, r, p.u, rfl, ?_⟩
          refine ab_one (as_if (at_eq hu ?_))
          walk_at "av"
          refine ax_ix ?_
          walk_at "av"
          refine ax_int ?_
          refine tIx rfl ?_
          refine eqStr ?_
          refine ⟨_, rfl, fun h3 => ?_, fun h3 => ?_⟩
          · have e3 : farR r p.u = t := by
              have z1 : decide ((⟨#[farR r p.u]⟩ : Str) = ⟨#[t]⟩) = true := h3
              rw [sgn_eq] at z1
              exact of_decide_eq_true z1
            refine ab_one (as_expr (ax_append ?_))
            walk_at "av"
            refine ⟨0, _, rfl, rfl, ?_⟩
            refine ax_add ?_
            walk_at "av"
            refine ax_tup (aa_cons ?_)
            walk_at "av"
            refine aa_nil ?_
            refine ⟨Nat.le_of_ble_eq_true rfl, ?_⟩
            refine ⟨by rw [List.length_map]; simp only [List.length_singleton]; omega, ?_⟩
            refine ⟨_, _, rfl, rfl, by rw [List.length_map, List.length_append, List.length_append]; omega, ?_⟩
            rw [way_snoc]
            refine ⟨?_, _, _, rfl⟩
            rw [range_flat, range_flat, fE, lE, if_pos ⟨h2', e3⟩, if_neg fun z => z.2.1 e3, List.append_nil, ← List.append_assoc, List.map_append (l₂ := [p.b ++ [j]])]
            rfl
          · have e3 : farR r p.u ≠ t := by
              have z1 : decide ((⟨#[farR r p.u]⟩ : Str) = ⟨#[t]⟩) = false := h3
              rw [sgn_eq] at z1
              exact of_decide_eq_false z1
            refine ab_one (as_if (at_ninS ?_))
            walk_at "av"
            walk_at "av"
            refine ⟨farR r p.u, zS p.z, rfl, rfl, ?_⟩
            have zl : (zS p.z).cps.toList = p.z := by
              show p.z.toArray.toList = p.z
              simp
            rw [zl]
            refine ⟨_, rfl, fun h4 => ?_, fun h4 => ?_⟩
            · have hv : farR r p.u ∉ p.z := by
                have z1 : (!decide (farR r p.u ∈ p.z)) = true := h4
                intro q
                rw [decide_eq_true q] at z1
                cases z1
              refine ab_one (as_expr (ax_append ?_))
              walk_at "av"
              refine ⟨md.length + 1, _, rfl, cG, ?_⟩
              refine ax_tup (aa_cons (ax_add ?_))
              walk_at "av"
              refine ax_tup (aa_cons ?_)
              walk_at "av"
              refine aa_nil ?_
              refine ⟨Nat.le_of_ble_eq_true rfl, ?_⟩
              refine ⟨by rw [List.length_map]; simp only [List.length_singleton]; omega, ?_⟩
              refine aa_cons (ax_add ?_)
              walk_at "av"
              walk_at "av"
              refine ⟨by show p.z.toArray.size + 1 ≤ 16000000; rw [List.size_toArray]; omega, ?_⟩
              refine aa_nil ?_
              refine ⟨Nat.le_of_ble_eq_true rfl, ?_⟩
              refine ⟨_, _, rfl, cG, by rw [List.length_map, List.length_append]; omega, ?_⟩
              rw [way_snoc, zS_snoc, cS]
              refine ⟨?_, _, _, rfl⟩
              rw [range_flat, range_flat, fE, lE, if_neg fun z => e3 z.2, if_pos ⟨h2', e3, hv⟩, List.append_nil, ← List.append_assoc]
              have em : ∀ (l : List Bg) (x : Bg), (l ++ [x]).map bgD = l.map bgD ++ [bgD x] := fun l x => by rw [List.map_append]; rfl
              rw [em]
              rfl
            · have hv : farR r p.u ∈ p.z := by
                have z1 : (!decide (farR r p.u ∈ p.z)) = false := h4
                by_cases q : farR r p.u ∈ p.z
                · exact q
                · rw [decide_eq_false q] at z1
                  cases z1
              refine ab_nil (same (by rw [fE, if_neg fun z => e3 z.2]) (by rw [lE, if_neg fun z => z.2.2 hv]) _ ⟨_, _, rfl⟩)
        · have h2' : ¬ (p.u = r.lo ∨ p.u = r.hi) := of_decide_eq_false h2
          refine ab_nil (same (by rw [fE, if_neg fun z => h2' z.1]) (by rw [lE, if_neg fun z => h2' z.1]) _ ⟨_, _, rfl⟩)
      · rintro e cc ⟨rfl, v8, v9, rfl⟩
        have eR : ((R.length : Int)).toNat = R.length := by omega
        refine ⟨?_, _, _, _, _, rfl⟩
        rw [eR, eF, eLl, List.append_assoc fnd Fi]
    · rintro e cc ⟨rfl, w6, w7, w8, w9, rfl⟩
      rw [List.length_map, List.take_length]
      -- layer = later
      refine ab_one (as_set 3 scRuns.nd rfl (.inl rfl) (Nat.le_of_ble_eq_true rfl) ?_)
      walk_at "av"
      exact ⟨_, _, md, rfl, hL.next hn' h8, _, _, _, _, _, _, rfl⟩
  · rintro e cc ⟨fnd, lay, mid, rfl, hL, y4, y5, y6, y7, y8, y9, rfl⟩
    have eR : ((R.length : Int)).toNat = R.length := by omega
    rw [eR] at hL
    have pm := hL.done
    refine ab_one (as_ret (ax_al (al_soW rfl msrt (aa_cons ?_))))
    walk_at "av"
    refine aa_nil ?_
    refine ⟨_, fnd.map nI, rfl, ?_, fun w hw => ?_, fun ws pw sw => ?_⟩
    · show some (Da.lst (fnd.map wayD)) = _
      rw [List.map_map]
      congr 2
      exact List.map_congr_left fun w _ => way_ints w
    · obtain ⟨v, hv, rfl⟩ := List.mem_map.mp hw
      have ne := allW_ne hst v (pm.mem_iff.mp hv)
      unfold nI
      simpa using ne
    · have e : ws = (allW R s t).map nI := asc_uniq (pw.trans (pm.map nI)) sw allW_asc
      subst e
      rw [List.map_map]
      have e2 : (allW R s t).map (intsD ∘ nI) = (allW R s t).map wayD := List.map_congr_left fun w _ => (way_ints w).symm
      rw [e2]
      exact ⟨_, rfl, hk⟩
end
end Kw
namespace Kw
abbrev sNw : Stmt := topS 31
theorem scNw : FnScope ["origin", "goal", "roads", "used", "index"] ["origin", "goal", "roads"] (defScope sNw) := ⟨rfl, rfl, rfl, by decide +kernel, rfl, by decide +kernel, by decide +kernel⟩
/-- where each road lies on a way nothing is raised -/
def fNw : Ph := fun ds k kx => ∃ R s t, ds = [sgn s, sgn t, .tup (R.map rdD)] ∧ R.length ≤ 8 ∧ usedW R s t = List.range R.length ∧ k .non
theorem m_nw : ∀ ds k1 k2 x1 x2, fNw ds k1 x1 → (∀ d, k1 d → k2 d) → (∀ c ks es, x1 c ks es → x2 c ks es) → fNw ds k2 x2 := by
  rintro ds k1 k2 x1 x2 ⟨R, s, t, h1, h2, h3, h4⟩ h _
  exact ⟨R, s, t, h1, h2, h3, h _ h4⟩
def clsBody : Stmt → List Stmt
  | .ClassDef _ _ _ b _ _ _ _ _ _ _ => b
  | _ => []
/-- the statement i of the class Web -/
def webS (i : Nat) : Stmt := (clsBody (topS 27)).getD i (.Pass ⟨0, 0, 0, 0⟩)
abbrev sIni : Stmt := webS 0
theorem scIni : FnScope ["self", "origin", "goal", "roads"] ["self", "origin", "goal", "roads"] (defScope sIni) := ⟨rfl, rfl, rfl, by decide +kernel, rfl, by decide +kernel, by decide +kernel⟩
def webKs : List Str := ["_origin", "_goal", "_roads"]
/-- a right web is made -/
def fIni : PhI := fun ds k => ∃ R s t, ds = [sgn s, sgn t, .tup (R.map rdD)] ∧ Wgood R s t ∧ k [sgn s, sgn t, .tup (R.map rdD)]
theorem m_ini : ∀ ds k1 k2, fIni ds k1 → (∀ es, k1 es → k2 es) → fIni ds k2 := by
  rintro ds k1 k2 ⟨R, s, t, h1, h2, h3⟩ h
  exact ⟨R, s, t, h1, h2, h _ h3⟩
/-- what the written part says of the class Web -/
structure WebC (K : PySem.W.Frag) (mg : Str → Option Value) (C : Addr) : Prop where
  g : mg "Web" = some (.ref C)
  cls : Cls K C
  n1 : NoAttr K C "_origin"
  n2 : NoAttr K C "_goal"
  n3 : NoAttr K C "_roads"
structure WebI (K : PySem.W.Frag) (C f : Addr) (fd : FuncData) : Prop where
  mkw : Mk K C f
  F : Fun K "__init__" "Web.__init__" sIni f fd
  b : Binds K fd ["self", "origin", "goal", "roads"] []
theorem pln_sgn (u : Nat) : pln (sgn u) = true := rfl
section
variable {ca : Str → Addr} {P : Program} {w : World} {K : PySem.W.Frag} {mg : Str → Option Value} {base : Heap}
theorem ok_nw {f f1 f2 f3 f4 : Addr} {fd fd1 fd2 fd3 fd4 : FuncData} (F : Fun K "need_ways" "need_ways" sNw f fd) (B : Tb mg) (D1 : Dd K mg "routes_on" sRo ["place", "goal", "roads", "met", "begun"] f1 fd1) (D2 : Dd K mg "other_end" sOe ["road", "place"] f2 fd2) (D3 : Dd K mg "routes" sRts ["origin", "goal", "roads"] f3 fd3)
    (D4 : Dd K mg "used_indexes" sUs ["origin", "goal", "roads"] f4 fd4) : FnG P w K mg base CX0 22 f fd ["origin", "goal", "roads"] (spP ca K 3 fNw) := by
  have ml := B.len
  refine fnP F scNw rfl (fun cdv A outer s H E ds kd gd hr hl hφ => ?_) m_nw
  obtain ⟨R, s, t, rfl, h8, hu, hk⟩ := hφ
  refine ab_cons (as_set 3 scNw.nd rfl (.inl rfl) (Nat.le_of_ble_eq_true rfl) ?_)
  refine ax_callP (ok_us D4.F B D1 D2 D3) gd hr rfl D4.g D4.F.kp D4.b ?_ (mono := m_us)
  refine aa_cons ?_
  walk_at "av"
  refine aa_cons ?_
  walk_at "av"
  refine aa_cons ?_
  walk_at "av"
  refine aa_nil ?_
  refine ⟨rfl, R, s, t, rfl, h8, ?_⟩
  rw [hu]
  refine ab_one (as_range rfl PassesOwn.never rfl B.rng (pg_name (i := 4) scNw.nd rfl (Or.inl rfl)) tg_name ?_)
  refine ax_len rfl ml (aa_cons ?_)
  walk_at "av"
  refine aa_nil ?_
  refine lenT ?_
  rw [List.length_map]
  refine ⟨_, rfl, by omega, by omega, fun i e cc => cc = [] ∧ ∃ y, e = [some (.im (sgn s)), some (.im (sgn t)), some (.im (.tup (R.map rdD))), some (.im (.lst (natD (List.range R.length)))), y], ⟨rfl, _, rfl⟩, ?_, ?_⟩
  · rintro i e cc hi ⟨rfl, y, rfl⟩
    refine ⟨Nat.le_of_ble_eq_true rfl, ?_⟩
    refine ab_one (as_if (at_nin ?_))
    walk_at "av"
    walk_at "av"
    refine ⟨(i : Int), (List.range R.length).map fun i : Nat => (i : Int), rfl, .inl (by unfold natD; rw [List.map_map]; rfl), ?_⟩
    have e1 : (((List.range R.length).map fun i : Nat => (i : Int)).any fun j => j == (i : Int)) = true := by
      rw [List.any_eq_true]
      exact ⟨(i : Int), List.mem_map.mpr ⟨i, List.mem_range.mpr (by omega), rfl⟩, by simp⟩
    rw [e1]
    exact ⟨_, rfl, fun z => (Bool.false_ne_true z).elim, fun _ => ab_nil ⟨rfl, _, rfl⟩⟩
  · rintro e cc ⟨rfl, y, rfl⟩
    exact hk
theorem ok_ini {f f1 f2 f3 f4 f5 f6 f7 f8 f9 f10 C : Addr} {fd fd1 fd2 fd3 fd4 fd5 fd6 fd7 fd8 fd9 fd10 : FuncData} (W : WebI K (ca "Web") f fd) (WC : WebC K mg (ca "Web")) (B : Tb mg) (L8 : ∃ t, mg "MOST_ROADS" = some (.int 8 t)) (L : ∃ t, mg "MOST_COST" = some (.int 1000000 t))
    (D1 : Dd K mg "routes_on" sRo ["place", "goal", "roads", "met", "begun"] f1 fd1) (D2 : Dd K mg "other_end" sOe ["road", "place"] f2 fd2) (D3 : Dd K mg "routes" sRts ["origin", "goal", "roads"] f3 fd3)
    (D4 : Dd K mg "used_indexes" sUs ["origin", "goal", "roads"] f4 fd4) (D5 : Dd K mg "need_ways" sNw ["origin", "goal", "roads"] f5 fd5) (D6 : Dd K mg "need_roads" sNr ["roads"] f6 fd6) (D7 : Dd K mg "is_whole" sWhole ["value", "most"] f7 fd7) (D8 : Dd K mg "is_place" sPlc ["value"] f8 fd8) (D9 : Dd K mg "is_cost" sCst ["value"] f9 fd9) (D10 : Dd K mg "is_road" sRd ["value"] f10 fd10) :
    FnG P w K mg base CX0 23 f fd ["self", "origin", "goal", "roads"] (spIni ca K "Web" 3 webKs fIni) := by
  refine fnIni W.F scIni rfl (fun cdv A outer s0 H E a ds kd gd hr hl hφ => ?_) m_ini
  obtain ⟨R, s, t, rfl, hw, hk⟩ := hφ
  have hu := hr.units
  refine ai_stm (as_if (at_not (at_tru ?_))) ?_
  · refine ax_callP (ok_plc D8.F B) gd (hr.mono (by decide)) rfl D8.g D8.F.kp D8.b ?_ (mono := m_plc)
    refine aa_cons ?_
    walk_at "av"
    refine aa_nil ?_
    refine ⟨rfl, _, rfl, rfl, ?_⟩
    rw [hw.ps]
    exact ⟨fun z => (Bool.false_ne_true z).elim, fun _ => ab_nil ⟨rfl, rfl⟩⟩
  refine ai_stm (as_if (aw_at (aw_or (at_not (at_tru ?_))))) ?_
  · refine ax_callP (ok_plc D8.F B) gd (hr.mono (by decide)) rfl D8.g D8.F.kp D8.b ?_ (mono := m_plc)
    refine aa_cons ?_
    walk_at "av"
    refine aa_nil ?_
    refine ⟨rfl, _, rfl, rfl, ?_⟩
    rw [hw.pt]
    refine ⟨fun z => (Bool.false_ne_true z).elim, fun _ => ?_⟩
    refine aw_or1 (at_eq hu ?_)
    walk_at "av"
    walk_at "av"
    refine eqStr ?_
    refine ⟨_, rfl, fun z => ?_, fun _ => ab_nil ⟨rfl, rfl⟩⟩
    have z1 : decide ((⟨#[t]⟩ : Str) = ⟨#[s]⟩) = true := z
    rw [sgn_eq] at z1
    exact absurd (of_decide_eq_true z1).symm hw.ne
  refine ai_stm (as_expr ?_) ?_
  · refine ax_callP (ok_nr D6.F B L8 L D7 D8 D9 D10) gd (hr.mono (by decide)) rfl D6.g D6.F.kp D6.b ?_ (mono := m_nr)
    refine aa_cons ?_
    walk_at "av"
    refine aa_nil ?_
    exact ⟨rfl, R, rfl, hw.pos, hw.few, hw.ok, rfl, rfl⟩
  refine ai_stm (as_expr ?_) ?_
  · refine ax_callP (ok_nw D5.F B D1 D2 D3 D4) gd hr rfl D5.g D5.F.kp D5.b ?_ (mono := m_nw)
    refine aa_cons ?_
    walk_at "av"
    refine aa_cons ?_
    walk_at "av"
    refine aa_cons ?_
    walk_at "av"
    refine aa_nil ?_
    exact ⟨rfl, R, s, t, rfl, hw.few, usedW_all hw.vd hw.few, rfl, rfl⟩
  refine ai_set rfl (.inl rfl) rfl WC.cls WC.n1 (by decide) (by decide) (fun _ _ _ _ _ h => h) ?_
  walk_at "av"
  refine ⟨rfl, _, rfl, ?_⟩
  refine ai_set rfl (.inl rfl) rfl WC.cls WC.n2 (by decide) (by decide) (fun _ _ _ _ _ h => h) ?_
  walk_at "av"
  refine ⟨rfl, _, rfl, ?_⟩
  refine ai_set rfl (.inl rfl) rfl WC.cls WC.n3 (by decide) (by decide) (fun _ _ _ _ _ h => h) ?_
  walk_at "av"
  refine ⟨rfl, _, rfl, ?_⟩
  exact ai_nil ⟨rfl, hk⟩
end
end Kw
namespace Kw
/-- a web as data -/
def webO (R : List Rd) (s t : Nat) : Da := .ins "Web" webKs [sgn s, sgn t, .tup (R.map rdD)]
abbrev sOrg : Stmt := webS 2
theorem scOrg : FnScope ["self"] ["self"] (defScope sOrg) := ⟨rfl, rfl, rfl, by decide +kernel, rfl, by decide +kernel, by decide +kernel⟩
def fOrg : Ph := fun ds k kx => ∃ R s t, ds = [webO R s t] ∧ k (sgn s)
theorem m_org : ∀ ds k1 k2 x1 x2, fOrg ds k1 x1 → (∀ d, k1 d → k2 d) → (∀ c ks es, x1 c ks es → x2 c ks es) → fOrg ds k2 x2 := by
  rintro ds k1 k2 x1 x2 ⟨R, s, t, h1, h3⟩ h _
  exact ⟨R, s, t, h1, h _ h3⟩
abbrev sGoa : Stmt := webS 3
theorem scGoa : FnScope ["self"] ["self"] (defScope sGoa) := ⟨rfl, rfl, rfl, by decide +kernel, rfl, by decide +kernel, by decide +kernel⟩
def fGoa : Ph := fun ds k kx => ∃ R s t, ds = [webO R s t] ∧ k (sgn t)
theorem m_goa : ∀ ds k1 k2 x1 x2, fGoa ds k1 x1 → (∀ d, k1 d → k2 d) → (∀ c ks es, x1 c ks es → x2 c ks es) → fGoa ds k2 x2 := by
  rintro ds k1 k2 x1 x2 ⟨R, s, t, h1, h3⟩ h _
  exact ⟨R, s, t, h1, h _ h3⟩
abbrev sRos : Stmt := webS 4
theorem scRos : FnScope ["self"] ["self"] (defScope sRos) := ⟨rfl, rfl, rfl, by decide +kernel, rfl, by decide +kernel, by decide +kernel⟩
def fRos : Ph := fun ds k kx => ∃ R s t, ds = [webO R s t] ∧ k (.tup (R.map rdD))
theorem m_ros : ∀ ds k1 k2 x1 x2, fRos ds k1 x1 → (∀ d, k1 d → k2 d) → (∀ c ks es, x1 c ks es → x2 c ks es) → fRos ds k2 x2 := by
  rintro ds k1 k2 x1 x2 ⟨R, s, t, h1, h3⟩ h _
  exact ⟨R, s, t, h1, h _ h3⟩
abbrev sLn : Stmt := webS 6
theorem scLn : FnScope ["self"] ["self"] (defScope sLn) := ⟨rfl, rfl, rfl, by decide +kernel, rfl, by decide +kernel, by decide +kernel⟩
def fLn : Ph := fun ds k kx => ∃ R s t, ds = [webO R s t] ∧ k (.int (R.length : Int))
theorem m_ln : ∀ ds k1 k2 x1 x2, fLn ds k1 x1 → (∀ d, k1 d → k2 d) → (∀ c ks es, x1 c ks es → x2 c ks es) → fLn ds k2 x2 := by
  rintro ds k1 k2 x1 x2 ⟨R, s, t, h1, h3⟩ h _
  exact ⟨R, s, t, h1, h _ h3⟩
/-- a property of Web -/
structure WebP (K : PySem.W.Frag) (C : Addr) (n ql : Str) (st : Stmt) (f : Addr) (fd : FuncData) : Prop where
  pr : ∃ pa, PropOf K C n pa f
  F : Fun K n ql st f fd
  b : Binds K fd ["self"] []
structure WebN (K : PySem.W.Frag) (C f : Addr) (fd : FuncData) : Prop where
  at_ : PySem.W.findIn K (.ref C) "__len__" = some (some (.ref f))
  fn : PySem.W.isFn K (.ref f) = true
  F : Fun K "__len__" "Web.__len__" sLn f fd
  b : Binds K fd ["self"] []
section
variable {ca : Str → Addr} {P : Program} {w : World} {K : PySem.W.Frag} {mg : Str → Option Value} {base : Heap}
theorem ok_org {f : Addr} {fd : FuncData} (W : WebP K (ca "Web") "origin" "Web.origin" sOrg f fd) (WC : WebC K mg (ca "Web")) : FnG P w K mg base CX0 1 f fd ["self"] (spP ca K 1 fOrg) := by
  refine fnP W.F scOrg rfl (fun cdv A outer s0 H E ds kd gd hr hl hφ => ?_) m_org
  obtain ⟨R, s, t, rfl, hk⟩ := hφ
  refine ab_one (as_ret (ax_fld ?_))
  walk_at "av"
  exact ⟨_, _, _, _, rfl, WC.cls, WC.n1, rfl, _, rfl, hk⟩
theorem ok_goa {f : Addr} {fd : FuncData} (W : WebP K (ca "Web") "goal" "Web.goal" sGoa f fd) (WC : WebC K mg (ca "Web")) : FnG P w K mg base CX0 1 f fd ["self"] (spP ca K 1 fGoa) := by
  refine fnP W.F scGoa rfl (fun cdv A outer s0 H E ds kd gd hr hl hφ => ?_) m_goa
  obtain ⟨R, s, t, rfl, hk⟩ := hφ
  refine ab_one (as_ret (ax_fld ?_))
  walk_at "av"
  exact ⟨_, _, _, _, rfl, WC.cls, WC.n2, rfl, _, rfl, hk⟩
theorem ok_ros {f : Addr} {fd : FuncData} (W : WebP K (ca "Web") "roads" "Web.roads" sRos f fd) (WC : WebC K mg (ca "Web")) : FnG P w K mg base CX0 1 f fd ["self"] (spP ca K 1 fRos) := by
  refine fnP W.F scRos rfl (fun cdv A outer s0 H E ds kd gd hr hl hφ => ?_) m_ros
  obtain ⟨R, s, t, rfl, hk⟩ := hφ
  refine ab_one (as_ret (ax_fld ?_))
  walk_at "av"
  exact ⟨_, _, _, _, rfl, WC.cls, WC.n3, rfl, _, rfl, hk⟩
theorem ok_ln {f : Addr} {fd : FuncData} (W : WebN K (ca "Web") f fd) (WC : WebC K mg (ca "Web")) (B : Tb mg) : FnG P w K mg base CX0 1 f fd ["self"] (spP ca K 1 fLn) := by
  refine fnP W.F scLn rfl (fun cdv A outer s0 H E ds kd gd hr hl hφ => ?_) m_ln
  obtain ⟨R, s, t, rfl, hk⟩ := hφ
  refine ab_one (as_ret (ax_len rfl B.len (aa_cons (ax_fld ?_))))
  walk_at "av"
  refine ⟨_, _, _, _, rfl, WC.cls, WC.n3, rfl, ?_⟩
  refine aa_nil ?_
  refine lenT ?_
  rw [List.length_map]
  exact ⟨_, rfl, hk⟩
end
end Kw
namespace Kw
/-! ### the places of a way: mathematics -/
def trc (R : List Rd) : Nat → List Nat → List Nat
  | _, [] => []
  | u, i :: w => match R[i]? with
    | some r => farR r u :: trc R (farR r u) w
    | none => []
def okW (R : List Rd) : Nat → List Nat → Prop
  | _, [] => True
  | u, i :: w => ∃ r, R[i]? = some r ∧ (u = r.lo ∨ u = r.hi) ∧ okW R (farR r u) w
def endW (R : List Rd) : Nat → List Nat → Nat
  | u, [] => u
  | u, i :: w => match R[i]? with
    | some r => endW R (farR r u) w
    | none => u
structure WayOk (R : List Rd) (t u : Nat) (z w : List Nat) : Prop where
  ok : okW R u w
  en : endW R u w = t
  nd : (trc R u w).Nodup
  nz : ∀ x ∈ trc R u w, x ∉ z
theorem rts_ok {R : List Rd} {t : Nat} : ∀ (n u : Nat) (z b c : List Nat), c ∈ rts R t n u z b → ∃ w, c = b ++ w ∧ w.length < n ∧ WayOk R t u z w
  | 0, u, z, b, c, h => by
    rw [rts] at h
    cases h
  | n + 1, u, z, b, c, h => by
    by_cases e : u = t
    · rw [rts, if_pos e] at h
      have ec := List.mem_singleton.mp h
      subst ec
      exact ⟨[], by simp, by simp, trivial, e, List.nodup_nil, fun x hx => nomatch hx⟩
    · rw [rts_eq e] at h
      obtain ⟨i, hi, hc⟩ := List.mem_flatMap.mp h
      unfold stp at hc
      cases q : R[i]? with
      | none =>
        rw [q] at hc
        cases hc
      | some r =>
        rw [q] at hc
        dsimp only at hc
        by_cases cnd : (u = r.lo ∨ u = r.hi) ∧ farR r u ∉ z
        · rw [if_pos cnd] at hc
          obtain ⟨w, hw, hl, h1, h2, h3, h4⟩ := rts_ok n _ _ _ _ hc
          have et : trc R u (i :: w) = farR r u :: trc R (farR r u) w := by rw [trc, q]
          refine ⟨i :: w, by rw [hw]; simp, by rw [List.length_cons]; omega, ⟨r, q, cnd.1, h1⟩, by rw [endW, q]; exact h2, ?_, ?_⟩
          · rw [et, List.nodup_cons]
            exact ⟨fun m => h4 _ m (List.mem_append_right _ (List.mem_singleton.mpr rfl)), h3⟩
          · rw [et]
            intro x hx
            rcases List.mem_cons.mp hx with rfl | hx
            · exact cnd.2
            · exact fun m => h4 x hx (List.mem_append_left _ m)
        · rw [if_neg cnd] at hc
          cases hc
theorem allW_ok {R : List Rd} {s t : Nat} {w : List Nat} (h : w ∈ allW R s t) : w.length ≤ 16 ∧ WayOk R t s [s] w := by
  obtain ⟨w', e, hl, ok⟩ := rts_ok _ _ _ _ _ h
  have e' : w = w' := e
  subst e'
  exact ⟨by omega, ok⟩
theorem okW_at {R : List Rd} : ∀ {u : Nat} {w : List Nat} {i k : Nat}, okW R u w → w[i]? = some k → ∃ r, R[k]? = some r ∧ (endW R u (w.take i) = r.lo ∨ endW R u (w.take i) = r.hi) ∧
    trc R u (w.take (i + 1)) = trc R u (w.take i) ++ [farR r (endW R u (w.take i))] ∧ endW R u (w.take (i + 1)) = farR r (endW R u (w.take i))
  | u, j :: w, 0, k, h, e => by
    obtain ⟨r, hr, hc, h2⟩ := h
    have ek : j = k := Option.some.inj e
    subst ek
    refine ⟨r, hr, hc, ?_, ?_⟩
    · show trc R u [j] = _
      rw [trc, hr]
      rfl
    · show endW R u [j] = _
      rw [endW, hr]
      rfl
  | u, j :: w, i + 1, k, h, e => by
    obtain ⟨r0, hr0, hc0, h2⟩ := h
    obtain ⟨r, a, b, c, d⟩ := okW_at (i := i) (k := k) h2 e
    have e1 : ∀ m, endW R u ((j :: w).take (m + 1)) = endW R (farR r0 u) (w.take m) := fun m => by
      rw [List.take_succ_cons, endW, hr0]
    have e2 : ∀ m, trc R u ((j :: w).take (m + 1)) = farR r0 u :: trc R (farR r0 u) (w.take m) := fun m => by
      rw [List.take_succ_cons, trc, hr0]
    refine ⟨r, a, by rw [e1]; exact b, ?_, ?_⟩
    · rw [e2, e2, e1, c]
      rfl
    · rw [e1, e1]
      exact d
theorem trc_last {R : List Rd} : ∀ {u : Nat} {w : List Nat}, okW R u w → ∃ y, u :: trc R u w = y ++ [endW R u w]
  | u, [], _ => ⟨[], rfl⟩
  | u, i :: w, h => by
    obtain ⟨r, hr, _, h2⟩ := h
    obtain ⟨y, e⟩ := trc_last h2
    refine ⟨u :: y, ?_⟩
    rw [trc, endW, hr]
    dsimp only
    rw [e]
    rfl
theorem okW_take {R : List Rd} : ∀ {u : Nat} {w : List Nat} (i : Nat), okW R u w → okW R u (w.take i)
  | _, [], i, _ => by rw [List.take_nil]; trivial
  | _, _ :: _, 0, _ => trivial
  | u, j :: w, i + 1, h => by
    obtain ⟨r, hr, hc, h2⟩ := h
    exact ⟨r, hr, hc, okW_take i h2⟩
/-- the last sign of the places up to here -/
theorem spot_last {R : List Rd} {u i : Nat} {w : List Nat} (h : okW R u w) : atI (zS (u :: trc R u (w.take i))).cps.toList (-1) = some (endW R u (w.take i)) := by
  obtain ⟨y, e⟩ := trc_last (okW_take i h)
  rw [e]
  exact zS_last
theorem trc_len {R : List Rd} : ∀ {u : Nat} {w : List Nat}, (trc R u w).length ≤ w.length
  | _, [] => Nat.le_refl _
  | u, i :: w => by
    rw [trc]
    cases R[i]? with
    | none => exact Nat.zero_le _
    | some r =>
      dsimp only
      have := trc_len (R := R) (u := farR r u) (w := w)
      rw [List.length_cons, List.length_cons]
      omega
theorem trc_mem {R : List Rd} : ∀ {u : Nat} {w : List Nat} {x : Nat}, x ∈ trc R u w → ∃ r ∈ R, x = r.lo ∨ x = r.hi
  | u, i :: w, x, h => by
    rw [trc] at h
    cases q : R[i]? with
    | none =>
      rw [q] at h
      cases h
    | some r =>
      rw [q] at h
      dsimp only at h
      rcases List.mem_cons.mp h with rfl | h
      · refine ⟨r, List.mem_of_getElem? q, ?_⟩
        unfold farR
        split
        · exact .inr rfl
        · exact .inl rfl
      · exact trc_mem h
/-- a place is a letter -/
theorem place_low {u : Nat} (h : placeB (sgn u) = true) : u < 128 := by
  have h2 : (!ltS "z" (⟨#[u]⟩ : Str)) = true := by
    have := (Bool.and_eq_true _ _).mp h
    exact this.2
  by_cases e : u < 128
  · exact e
  · exfalso
    have z : ltS "z" (⟨#[u]⟩ : Str) = true := by
      show decide ([122] < [u]) = true
      exact decide_eq_true (List.Lex.rel (by omega))
    rw [z] at h2
    cases h2
theorem rd_low {r : Rd} (h : rdOk r = true) : r.lo < 128 ∧ r.hi < 128 := by
  have h1 := ((Bool.and_eq_true _ _).mp h).1
  have h2 : (placeB (sgn r.lo) && (placeB (sgn r.hi) && (ltD (sgn r.lo) (sgn r.hi) && (wholeB r.a 1000000 && wholeB r.b 1000000)))) = true := h1
  rw [Bool.and_eq_true, Bool.and_eq_true] at h2
  exact ⟨place_low h2.1, place_low h2.2.1⟩
/-- the first number of a road -/
def cstR (R : List Rd) (k : Nat) : Int := match R[k]? with
  | some r => match r.a with
    | .int i => i
    | _ => 0
  | none => 0
theorem rd_int {R : List Rd} {k : Nat} {r : Rd} (h : rdOk r = true) (hk : R[k]? = some r) : r.a = .int (cstR R k) ∧ 0 ≤ cstR R k ∧ cstR R k ≤ 1000000 := by
  have h1 := ((Bool.and_eq_true _ _).mp h).1
  have h2 : (placeB (sgn r.lo) && (placeB (sgn r.hi) && (ltD (sgn r.lo) (sgn r.hi) && (wholeB r.a 1000000 && wholeB r.b 1000000)))) = true := h1
  rw [Bool.and_eq_true, Bool.and_eq_true, Bool.and_eq_true, Bool.and_eq_true] at h2
  have h3 := h2.2.2.2.1
  unfold cstR
  rw [hk]
  dsimp only
  cases e : r.a with
  | int i =>
    rw [e] at h3
    unfold wholeB at h3
    dsimp only at h3
    simp at h3
    exact ⟨rfl, h3⟩
  | _ =>
    rw [e] at h3
    cases h3
/-- the string of places has only low signs, none twice -/
theorem spots_ok {R : List Rd} {s t : Nat} {w : List Nat} (hw : Wgood R s t) (h : w ∈ allW R s t) : (zS (s :: trc R s w)).cps.all (· < 128) = true ∧ (zS (s :: trc R s w)).cps.toList.Nodup ∧ (zS (s :: trc R s w)).cps.toList.length ≤ 17 := by
  obtain ⟨hl, ok⟩ := allW_ok h
  have e : (zS (s :: trc R s w)).cps.toList = s :: trc R s w := by
    show (s :: trc R s w).toArray.toList = _
    simp
  refine ⟨?_, ?_, ?_⟩
  · rw [← Array.all_toList, e, List.all_eq_true]
    intro x hx
    rcases List.mem_cons.mp hx with rfl | hx
    · exact decide_eq_true (place_low hw.ps)
    · obtain ⟨r, hr, hx2⟩ := trc_mem hx
      have := rd_low (hw.ok r hr)
      rcases hx2 with rfl | rfl
      · exact decide_eq_true this.1
      · exact decide_eq_true this.2
  · rw [e, List.nodup_cons]
    exact ⟨fun m => ok.nz s m (List.mem_singleton.mpr rfl), ok.nd⟩
  · rw [e, List.length_cons]
    have := trc_len (R := R) (u := s) (w := w)
    omega
end Kw
namespace Kw
/-- more built-in names -/
structure Tb2 (mg : Str → Option Value) : Prop where
  all : mg "all" = none
  sum : mg "sum" = none
  set : mg "set" = none
  rep : mg "repr" = none
  lst : mg "list" = none
  max : mg "max" = none
  min : mg "min" = none
def compSx (l : List (Str × NameKind)) : Scope := { kind := ScopeKind.function, names := (".0", .local) :: l, isGenerator := false, isCoroutine := false }
end Kw
namespace Kw
/-! ### a web without some roads: mathematics -/
def keepI (p : Nat → Bool) (R : List Rd) : List Nat := (List.range R.length).filter p
def keepR (p : Nat → Bool) (R : List Rd) : List Rd := (keepI p R).filterMap fun i => R[i]?
theorem keepI_lt {p : Nat → Bool} {R : List Rd} {i : Nat} (h : i ∈ keepI p R) : i < R.length ∧ p i = true := by
  have z := List.mem_filter.mp h
  exact ⟨List.mem_range.mp z.1, z.2⟩
theorem keepI_asc {p : Nat → Bool} {R : List Rd} : (keepI p R).Pairwise (· < ·) := List.Pairwise.filter _ List.pairwise_lt_range
theorem fm_all {α β : Type} {f : α → Option β} : ∀ {l : List α}, (∀ x ∈ l, (f x).isSome = true) → (l.filterMap f).length = l.length ∧ ∀ j : Nat, (l.filterMap f)[j]? = l[j]?.bind f
  | [], _ => ⟨rfl, fun j => rfl⟩
  | x :: l, h => by
    obtain ⟨a, b⟩ := fm_all (f := f) (l := l) fun y hy => h y (List.mem_cons_of_mem _ hy)
    obtain ⟨y, hy⟩ := Option.isSome_iff_exists.mp (h x (List.mem_cons_self ..))
    rw [List.filterMap_cons, hy]
    refine ⟨by show _ + 1 = _ + 1; rw [a], fun j => ?_⟩
    cases j with
    | zero =>
      show some y = f x
      rw [hy]
    | succ j => exact b j
theorem keepR_at {p : Nat → Bool} {R : List Rd} : (keepR p R).length = (keepI p R).length ∧ ∀ j : Nat, (keepR p R)[j]? = (keepI p R)[j]?.bind fun i => R[i]? :=
  fm_all fun i hi => by rw [List.getElem?_eq_getElem (keepI_lt hi).1]; rfl
/-- the j-th road that is left: its index ahead -/
def phi (p : Nat → Bool) (R : List Rd) (j : Nat) : Nat := (keepI p R).getD j 0
theorem phi_at {p : Nat → Bool} {R : List Rd} {j : Nat} (h : j < (keepI p R).length) : (keepI p R)[j]? = some (phi p R j) ∧ phi p R j ∈ keepI p R := by
  have e : phi p R j = (keepI p R)[j] := by
    unfold phi
    rw [List.getD_eq_getElem?_getD, List.getElem?_eq_getElem h]
    rfl
  rw [e]
  exact ⟨List.getElem?_eq_getElem h, List.getElem_mem h⟩
theorem keepI_phi {p : Nat → Bool} {R : List Rd} : keepI p R = (List.range (keepI p R).length).map (phi p R) := by
  apply List.ext_getElem?
  intro j
  rw [List.getElem?_map]
  by_cases h : j < (keepI p R).length
  · rw [(phi_at h).1, List.getElem?_range h]
    rfl
  · rw [List.getElem?_eq_none (by omega), List.getElem?_eq_none (by rw [List.length_range]; omega)]
    rfl
theorem flat_filt {α β : Type} {p : α → Bool} {f : α → List β} : ∀ {l : List α}, (∀ x ∈ l, p x = false → f x = []) → (l.filter p).flatMap f = l.flatMap f
  | [], _ => rfl
  | x :: l, h => by
    have ih := flat_filt (p := p) (f := f) (l := l) fun y hy => h y (List.mem_cons_of_mem _ hy)
    cases q : p x with
    | true => rw [List.filter_cons_of_pos q, List.flatMap_cons, List.flatMap_cons, ih]
    | false => rw [List.filter_cons_of_neg (by rw [q]; exact Bool.false_ne_true), List.flatMap_cons, h x (List.mem_cons_self ..) q, ih, List.nil_append]
theorem fm_congr {α β : Type} {f g : α → Option β} : ∀ {l : List α}, (∀ x ∈ l, f x = g x) → l.filterMap f = l.filterMap g
  | [], _ => rfl
  | x :: l, h => by rw [List.filterMap_cons, List.filterMap_cons, h x (List.mem_cons_self ..), fm_congr fun y hy => h y (List.mem_cons_of_mem _ hy)]
theorem filt_flat {α β : Type} {p : β → Bool} {f : α → List β} : ∀ l : List α, (l.flatMap f).filter p = l.flatMap fun x => (f x).filter p
  | [] => rfl
  | x :: l => by rw [List.flatMap_cons, List.filter_append, filt_flat l, List.flatMap_cons]
theorem flat_cong {α β : Type} {f g : α → List β} : ∀ {l : List α}, (∀ x ∈ l, f x = g x) → l.flatMap f = l.flatMap g
  | [], _ => rfl
  | x :: l, h => by rw [List.flatMap_cons, List.flatMap_cons, h x (List.mem_cons_self ..), flat_cong fun y hy => h y (List.mem_cons_of_mem _ hy)]
/-- the ways of what is left are the ways ahead that keep to it -/
theorem rts_keep {p : Nat → Bool} {R : List Rd} {t : Nat} : ∀ (n u : Nat) (z b : List Nat), (∀ j ∈ b, j < (keepI p R).length) →
    (rts (keepR p R) t n u z b).map (fun w => w.map (phi p R)) = (rts R t n u z (b.map (phi p R))).filter fun w => w.all p
  | 0, u, z, b, h => by
    rw [rts, rts]
    rfl
  | n + 1, u, z, b, h => by
    by_cases e : u = t
    · rw [rts, rts, if_pos e, if_pos e]
      have ok : (b.map (phi p R)).all p = true := by
        rw [List.all_eq_true]
        intro x hx
        obtain ⟨j, hj, rfl⟩ := List.mem_map.mp hx
        exact (keepI_lt (phi_at (h j hj)).2).2
      rw [List.filter_cons_of_pos (p := fun w : List Nat => w.all p) ok]
      rfl
    · rw [rts_eq e, rts_eq e, filt_flat, keepR_at.1]
      have no : ∀ i ∈ List.range R.length, p i = false → (stp R t n u z (b.map (phi p R)) i).filter (fun w => w.all p) = [] := by
        intro i _ hp
        rw [List.filter_eq_nil_iff]
        intro c hc hall
        obtain ⟨is, ec⟩ := stp_pre hc
        have hall' : c.all p = true := hall
        rw [List.all_eq_true] at hall'
        have := hall' i (by rw [ec]; simp)
        rw [hp] at this
        cases this
      rw [← flat_filt no]
      show _ = (keepI p R).flatMap _
      rw [keepI_phi (p := p) (R := R), List.flatMap_map, List.map_flatMap]
      rw [List.length_map, List.length_range]
      refine flat_cong fun j hj => ?_
      have jl := List.mem_range.mp hj
      obtain ⟨pa, pm⟩ := phi_at jl
      unfold stp
      rw [keepR_at.2, pa]
      show List.map _ (match R[phi p R j]? with | some r => _ | none => _) = _
      cases q : R[phi p R j]? with
      | none => rfl
      | some r =>
        dsimp only
        by_cases cnd : (u = r.lo ∨ u = r.hi) ∧ farR r u ∉ z
        · rw [if_pos cnd, if_pos cnd]
          have ih := rts_keep (p := p) (R := R) (t := t) n (farR r u) (z ++ [farR r u]) (b ++ [j]) fun k hk => by
            rcases List.mem_append.mp hk with hk | hk
            · exact h k hk
            · rw [List.mem_singleton.mp hk]
              exact jl
          rw [ih, List.map_append]
          rfl
        · rw [if_neg cnd, if_neg cnd]
          rfl
theorem allW_keep {p : Nat → Bool} {R : List Rd} {s t : Nat} : (allW (keepR p R) s t).map (fun w => w.map (phi p R)) = (allW R s t).filter fun w => w.all p := rts_keep 17 s [s] [] fun _ h => nomatch h
def usB (R : List Rd) (s t i : Nat) : Bool := (allW R s t).any fun w => w.contains i
theorem usedW_keep {R : List Rd} {s t : Nat} : usedW R s t = keepI (usB R s t) R := rfl
/-- what is left of what is left -/
theorem keep_keep {p q Q : Nat → Bool} {R : List Rd} (h1 : ∀ i, i < R.length → Q i = true → p i = true) (h2 : ∀ j, j < (keepI p R).length → q j = Q (phi p R j)) : keepR q (keepR p R) = keepR Q R := by
  have e1 : keepI Q R = (keepI p R).filter Q := by
    unfold keepI
    rw [List.filter_filter]
    refine List.filter_congr fun i hi => ?_
    cases z : Q i with
    | false => rfl
    | true => rw [h1 i (List.mem_range.mp hi) z]; rfl
  have e2 : (keepI p R).filter Q = (keepI q (keepR p R)).map (phi p R) := by
    show _ = ((List.range (keepR p R).length).filter q).map (phi p R)
    rw [keepR_at.1]
    generalize em : (keepI p R).length = m at h2
    have ek : keepI p R = (List.range m).map (phi p R) := by rw [← em]; exact keepI_phi
    rw [ek, List.filter_map]
    congr 1
    refine List.filter_congr fun j hj => ?_
    exact (h2 j (List.mem_range.mp hj)).symm
  show (keepI q (keepR p R)).filterMap _ = (keepI Q R).filterMap _
  rw [e1, e2, List.filterMap_map]
  refine fm_congr fun j hj => ?_
  have jl : j < (keepI p R).length := by
    rw [← keepR_at.1]
    exact (keepI_lt hj).1
  show (keepR p R)[j]? = R[phi p R j]?
  rw [keepR_at.2, (phi_at jl).1]
  rfl
/-- the roads that are left when some are closed: those on ways that keep to the others -/
def lefB (p : Nat → Bool) (R : List Rd) (s t i : Nat) : Bool := ((allW R s t).filter fun w => w.all p).any fun w => w.contains i
theorem lefB_p {p : Nat → Bool} {R : List Rd} {s t i : Nat} (h : lefB p R s t i = true) : p i = true := by
  unfold lefB at h
  rw [List.any_eq_true] at h
  obtain ⟨w, hw, hi⟩ := h
  have z := (List.mem_filter.mp hw).2
  rw [List.all_eq_true] at z
  exact z i (by simpa using hi)
theorem phi_inj {p : Nat → Bool} {R : List Rd} {i j : Nat} (hi : i < (keepI p R).length) (hj : j < (keepI p R).length) (h : phi p R i = phi p R j) : i = j := by
  have nd : (keepI p R).Nodup := keepI_asc.imp fun q => by omega
  have a := (phi_at hi).1
  have b := (phi_at hj).1
  rw [h, ← b] at a
  exact (List.getElem?_inj hi nd).mp a
theorem us_lef {p : Nat → Bool} {R : List Rd} {s t j : Nat} (hj : j < (keepI p R).length) : usB (keepR p R) s t j = lefB p R s t (phi p R j) := by
  unfold usB lefB
  rw [← allW_keep, List.any_map]
  apply Bool.eq_iff_iff.mpr
  rw [List.any_eq_true, List.any_eq_true]
  constructor
  · rintro ⟨w, hw, hi⟩
    refine ⟨w, hw, ?_⟩
    have hi' : j ∈ w := by simpa using hi
    show (w.map (phi p R)).contains _ = true
    simpa using ⟨j, hi', rfl⟩
  · rintro ⟨w, hw, hi⟩
    refine ⟨w, hw, ?_⟩
    have hi2 : (w.map (phi p R)).contains (phi p R j) = true := hi
    have hi' : phi p R j ∈ w.map (phi p R) := by simpa using hi2
    obtain ⟨k, hk, e⟩ := List.mem_map.mp hi'
    have kl : k < (keepI p R).length := by
      rw [← keepR_at.1]
      exact used_lt hw k hk
    have := phi_inj kl hj e
    subst this
    simpa using hk
theorem left_eq {p : Nat → Bool} {R : List Rd} {s t : Nat} : keepR (usB (keepR p R) s t) (keepR p R) = keepR (lefB p R s t) R :=
  keep_keep (fun _ _ h => lefB_p h) fun _ hj => us_lef hj
/-- a web of which each road lies on a way -/
theorem vd_of {R : List Rd} {s t : Nat} (h : ∀ i, i < R.length → usB R s t i = true) : Wb.Vd (prs R) s t := by
  intro i hi
  have len : (prs R).length = R.length := List.length_map ..
  have z := h i (by rw [← len]; exact hi)
  unfold usB at z
  rw [List.any_eq_true] at z
  obtain ⟨w, hw, hm⟩ := z
  have hm' : i ∈ w := by simpa using hm
  unfold allW at hw
  rw [rts_dfs 17 s [s] [s] [] fun x => Iff.rfl] at hw
  obtain ⟨is, e, k⟩ := Wb.dfs_wk 17 _ _ _ _ hw
  rw [List.nil_append] at e
  subst e
  exact ⟨w, hm', k⟩
/-- what is used is all used -/
theorem us_all {R : List Rd} {s t : Nat} : ∀ j, j < (keepR (usB R s t) R).length → usB (keepR (usB R s t) R) s t j = true := by
  intro j hj
  rw [keepR_at.1] at hj
  rw [us_lef hj]
  obtain ⟨_, pm⟩ := phi_at hj
  have z := (keepI_lt pm).2
  unfold usB at z
  rw [List.any_eq_true] at z
  obtain ⟨w, hw, hm⟩ := z
  unfold lefB
  rw [List.any_eq_true]
  refine ⟨w, List.mem_filter.mpr ⟨hw, ?_⟩, hm⟩
  rw [List.all_eq_true]
  intro i hi
  unfold usB
  rw [List.any_eq_true]
  exact ⟨w, hw, by simpa using hi⟩
end Kw
namespace Kw
/-- data that may be compared -/
structure Ly (m : Nat) (d : Da) : Prop where
  ok : okP d = true
  cl : (toP d).canLay0 = true
  dp : (toP d).depth ≤ m
theorem Ly.sh {m : Nat} {d : Da} (h : Ly m d) (hm : m ≤ 64) : SeqAt.shaped (toP d) = true := by
  unfold SeqAt.shaped
  rw [h.cl, Bool.true_and]
  exact decide_eq_true (Nat.le_trans h.dp hm)
theorem ly_int (i : Int) : Ly 0 (.int i) := by
  refine ⟨by simp only [okP], by simp only [toP, PyData.canLay0], ?_⟩
  simp only [toP, PyData.depth]
  omega
theorem ly_sgn {u : Nat} (h : u < 128) : Ly 0 (sgn u) := by
  refine ⟨by simp only [sgn, okP], ?_, ?_⟩
  · simp only [sgn, toP, PyData.canLay0]
    have z : ∀ j : Fin 128, PyData.strOk (⟨#[j.val]⟩ : Str) = true := by decide +kernel
    exact z ⟨u, h⟩
  · simp only [sgn, toP, PyData.depth]
    omega
theorem ly_all {m : Nat} : ∀ {l : List Da}, (∀ d ∈ l, Ly m d) → okPL l = true ∧ PyData.canLayAll0 (toPL l) = true ∧ PyData.depthAll (toPL l) ≤ m
  | [], _ => by
    refine ⟨?_, ?_, ?_⟩
    · simp only [okPL]
    · simp only [toPL, PyData.canLayAll0]
    · simp [toPL, PyData.depthAll]
  | d :: l, h => by
    have r := h d (List.mem_cons_self ..)
    obtain ⟨a, b, c⟩ := ly_all (m := m) (l := l) fun x hx => h x (List.mem_cons_of_mem _ hx)
    have dp := r.dp
    refine ⟨?_, ?_, ?_⟩
    · simp only [okPL, r.ok, a, Bool.and_self]
    · simp only [toPL, PyData.canLayAll0, r.cl, b, Bool.and_self]
    · simp only [toPL, PyData.depthAll]
      omega
theorem ly_tup {m : Nat} {l : List Da} (h : ∀ d ∈ l, Ly m d) : Ly (m + 1) (.tup l) := by
  obtain ⟨a, b, c⟩ := ly_all h
  refine ⟨?_, ?_, ?_⟩
  · simp only [okP, a]
  · simp only [toP, PyData.canLay0, b]
  · simp only [toP, PyData.depth]
    omega
theorem ly_lst {m : Nat} {l : List Da} (h : ∀ d ∈ l, Ly m d) : Ly (m + 1) (.lst l) := by
  obtain ⟨a, b, c⟩ := ly_all h
  refine ⟨?_, ?_, ?_⟩
  · simp only [okP, a]
  · simp only [toP, PyData.canLay0, b]
  · simp only [toP, PyData.depth]
    omega
theorem rd_all {r : Rd} (h : rdOk r = true) : (∃ x, r.a = .int x) ∧ ∃ y, r.b = .int y := by
  have h1 := ((Bool.and_eq_true _ _).mp h).1
  have h2 : (placeB (sgn r.lo) && (placeB (sgn r.hi) && (ltD (sgn r.lo) (sgn r.hi) && (wholeB r.a 1000000 && wholeB r.b 1000000)))) = true := h1
  rw [Bool.and_eq_true, Bool.and_eq_true, Bool.and_eq_true, Bool.and_eq_true] at h2
  have a := h2.2.2.2.1
  have b := h2.2.2.2.2
  constructor
  · cases e : r.a with
    | int i => exact ⟨i, rfl⟩
    | _ => rw [e] at a; cases a
  · cases e : r.b with
    | int i => exact ⟨i, rfl⟩
    | _ => rw [e] at b; cases b
theorem ly_rd {r : Rd} (h : rdOk r = true) : Ly 1 (rdD r) := by
  obtain ⟨⟨x, ex⟩, y, ey⟩ := rd_all h
  obtain ⟨l, u⟩ := rd_low h
  refine ly_tup (m := 0) fun d hd => ?_
  rw [ex, ey] at hd
  simp only [List.mem_cons, List.not_mem_nil, or_false] at hd
  rcases hd with rfl | rfl | rfl | rfl
  · exact ly_sgn l
  · exact ly_sgn u
  · exact ly_int _
  · exact ly_int _
theorem ly_rds {R : List Rd} (h : ∀ r ∈ R, rdOk r = true) : Ly 2 (.tup (R.map rdD)) := ly_tup fun d hd => by
  obtain ⟨r, hr, rfl⟩ := List.mem_map.mp hd
  exact ly_rd (h r hr)
theorem ly_mono {m n : Nat} {d : Da} (h : Ly m d) (e : m ≤ n) : Ly n d := ⟨h.ok, h.cl, Nat.le_trans h.dp e⟩
section
variable {cs : Cells} {k : KE} {x y : AV} {g : Bool → Bool}
theorem eq_sm {m : Nat} {d : Da} (h : Ly m d) (hm : m ≤ 64) (ex : asD cs x = some d) (ey : asD cs y = some d) (hk : k (.im (.bl (g true))) cs) : sEqv g x y cs k :=
  .inr ⟨d, d, ex, ey, h.ok, h.ok, h.sh hm, h.sh hm, by rw [SeqAt.eqv_refl _ (SeqAt.canLay_of_shaped (h.sh hm))]; exact hk⟩
/-- a list against the empty one -/
theorem eq_nilL {m : Nat} {l : List Da} (h : Ly m (.lst l)) (hm : m ≤ 64) (hk : k (.im (.bl (g l.isEmpty))) cs) : sEqv g (.im (.lst l)) (.im (.lst [])) cs k := by
  refine .inr ⟨_, _, rfl, rfl, h.ok, by simp only [okP, okPL], h.sh hm, by decide +kernel, ?_⟩
  have e : PyData.eqv (toP (.lst l)) (toP (.lst [])) = l.isEmpty := by
    cases l <;> simp [toP, toPL, PyData.eqv, PyData.eqvAll]
  rw [e]
  exact hk
theorem eq_nilT {m : Nat} {l : List Da} (h : Ly m (.tup l)) (hm : m ≤ 64) (hk : k (.im (.bl (g l.isEmpty))) cs) : sEqv g (.im (.tup l)) (.im (.tup [])) cs k := by
  refine .inr ⟨_, _, rfl, rfl, h.ok, by simp only [okP, okPL], h.sh hm, by decide +kernel, ?_⟩
  have e : PyData.eqv (toP (.tup l)) (toP (.tup [])) = l.isEmpty := by
    cases l <;> simp [toP, toPL, PyData.eqv, PyData.eqvAll]
  rw [e]
  exact hk
end
/-! ### webs that are told from webs -/
theorem rdOk_mk {lo hi : Nat} {r : Rd} (h : rdOk r = true) (el : lo = r.lo) (eh : hi = r.hi) {x y : Int} (hx : 0 ≤ x ∧ x ≤ 1000000) (hy : 0 ≤ y ∧ y ≤ 1000000) : rdOk ⟨lo, hi, .int x, .int y⟩ = true := by
  have h1 := ((Bool.and_eq_true _ _).mp h).1
  have h2 : (placeB (sgn r.lo) && (placeB (sgn r.hi) && (ltD (sgn r.lo) (sgn r.hi) && (wholeB r.a 1000000 && wholeB r.b 1000000)))) = true := h1
  rw [Bool.and_eq_true, Bool.and_eq_true, Bool.and_eq_true] at h2
  have wx : ∀ z : Int, 0 ≤ z ∧ z ≤ 1000000 → wholeB (.int z) 1000000 = true := fun z hz => by
    unfold wholeB
    dsimp only
    simp
    exact hz
  show (placeB (sgn lo) && (placeB (sgn hi) && (ltD (sgn lo) (sgn hi) && (wholeB (.int x) 1000000 && wholeB (.int y) 1000000))) && (pln (.int x) && pln (.int y))) = true
  rw [el, eh, h2.1, h2.2.1, h2.2.2.1, wx x hx, wx y hy]
  rfl
/-- other costs -/
def setC (R : List Rd) (k : Nat) (r : Rd) (x y : Int) : List Rd := R.take k ++ [⟨r.lo, r.hi, .int x, .int y⟩] ++ R.drop (k + 1)
theorem split_at {α : Type} {l : List α} {k : Nat} {r : α} (h : l[k]? = some r) : l = l.take k ++ [r] ++ l.drop (k + 1) := by
  have lt := (List.getElem?_eq_some_iff.mp h).1
  have e := (List.getElem?_eq_some_iff.mp h).2
  rw [List.append_assoc, ← e, List.singleton_append, List.getElem_cons_drop, List.take_append_drop]
theorem wg_set {R : List Rd} {s t k : Nat} {r : Rd} {x y : Int} (h : Wgood R s t) (hk : R[k]? = some r) (hx : 0 ≤ x ∧ x ≤ 1000000) (hy : 0 ≤ y ∧ y ≤ 1000000) : Wgood (setC R k r x y) s t := by
  have sp := split_at hk
  have ep : prs (setC R k r x y) = prs R := by
    unfold setC
    conv => rhs; rw [sp]
    unfold prs
    rw [List.map_append, List.map_append, List.map_append, List.map_append]
    rfl
  have el : (setC R k r x y).length = R.length := by
    have := congrArg List.length ep
    unfold prs at this
    rw [List.length_map, List.length_map] at this
    exact this
  refine ⟨by rw [ep]; exact h.vd, by rw [el]; exact h.pos, by rw [el]; exact h.few, fun q hq => ?_, h.ne, h.ps, h.pt⟩
  unfold setC at hq
  rcases List.mem_append.mp hq with hq | hq
  · rcases List.mem_append.mp hq with hq | hq
    · exact h.ok q (List.mem_of_mem_take hq)
    · rw [List.mem_singleton.mp hq]
      exact rdOk_mk (h.ok r (List.mem_of_getElem? hk)) rfl rfl hx hy
  · exact h.ok q (List.mem_of_mem_drop hq)
/-- what is left is a web -/
theorem wg_left {R : List Rd} {s t : Nat} {p : Nat → Bool} (h : Wgood R s t) (hp : 0 < (keepR (lefB p R s t) R).length) : Wgood (keepR (lefB p R s t) R) s t := by
  have mem : ∀ r ∈ keepR (lefB p R s t) R, r ∈ R := fun r hr => by
    obtain ⟨i, _, hi⟩ := List.mem_filterMap.mp hr
    exact List.mem_of_getElem? hi
  refine ⟨?_, hp, ?_, fun r hr => h.ok r (mem r hr), h.ne, h.ps, h.pt⟩
  · rw [← left_eq]
    exact vd_of us_all
  · rw [keepR_at.1]
    refine Nat.le_trans ?_ h.few
    unfold keepI
    refine Nat.le_trans (List.length_filter_le _ _) ?_
    rw [List.length_range]
    exact Nat.le_refl _
/-- a road more from end to end -/
theorem wg_wide {R : List Rd} {s t : Nat} {r : Rd} (h : Wgood R s t) (h8 : R.length < 8) (hr : rdOk r = true) (he : (r.lo = s ∧ r.hi = t) ∨ (r.lo = t ∧ r.hi = s)) : Wgood (R ++ [r]) s t := by
  refine ⟨?_, ?_, ?_, fun q hq => ?_, h.ne, h.ps, h.pt⟩
  · intro i hi
    have ep : prs (R ++ [r]) = prs R ++ [(r.lo, r.hi)] := by
      unfold prs
      rw [List.map_append]
      rfl
    rw [ep] at hi ⊢
    have el : (prs R).length = R.length := List.length_map ..
    by_cases lt : i < (prs R).length
    · obtain ⟨is, m, w⟩ := h.vd i lt
      refine ⟨is, m, ?_⟩
      have z := Wb.Wk.map (E' := prs R ++ [(r.lo, r.hi)]) (f := fun x : Nat => x) (σ := fun j => j) w (fun x y q => q) (fun i u v j => j.app) [s] (by intro x hx; simpa using hx)
      simpa using z
    · have e : i = (prs R).length := by
        rw [List.length_append, List.length_singleton] at hi
        omega
      subst e
      refine ⟨[(prs R).length], List.mem_singleton.mpr rfl, .cons h.ne ?_ (fun m => h.ne (List.mem_singleton.mp m).symm) .nil⟩
      have at_ : (prs R ++ [(r.lo, r.hi)])[(prs R).length]? = some (r.lo, r.hi) := by
        rw [List.getElem?_append_right (Nat.le_refl _), Nat.sub_self]
        rfl
      rcases he with ⟨a, b⟩ | ⟨a, b⟩
      · left
        rw [at_, a, b]
      · right
        rw [at_, a, b]
  · rw [List.length_append, List.length_singleton]
    omega
  · rw [List.length_append, List.length_singleton]
    omega
  · rcases List.mem_append.mp hq with hq | hq
    · exact h.ok q hq
    · rw [List.mem_singleton.mp hq]
      exact hr
end Kw
namespace Kw
/-! the same over a list of roads -/
def fRoL (n : Nat) : Ph := fun ds k kx => ∃ R t u z b, ds = [sgn u, sgn t, .lst (R.map rdD), .str (zS z), wayD b] ∧ meas R z < n ∧ z.length + n ≤ 1000 ∧ b.length + n ≤ 1000 ∧ (rts R t n u z b).length ≤ 16000000 ∧ k (.lst ((rts R t n u z b).map wayD))
theorem m_roL (n : Nat) : ∀ ds k1 k2 x1 x2, fRoL n ds k1 x1 → (∀ d, k1 d → k2 d) → (∀ c ks es, x1 c ks es → x2 c ks es) → fRoL n ds k2 x2 := by
  rintro ds k1 k2 x1 x2 ⟨R, t, u, z, b, h1, h2, h3, h4, h5, h6⟩ h _
  exact ⟨R, t, u, z, b, h1, h2, h3, h4, h5, h _ h6⟩
def fRtsL : Ph := fun ds k kx => ∃ R s t, ds = [sgn s, sgn t, .lst (R.map rdD)] ∧ R.length ≤ 8 ∧ k (.tup ((allW R s t).map wayD))
theorem m_rtsL : ∀ ds k1 k2 x1 x2, fRtsL ds k1 x1 → (∀ d, k1 d → k2 d) → (∀ c ks es, x1 c ks es → x2 c ks es) → fRtsL ds k2 x2 := by
  rintro ds k1 k2 x1 x2 ⟨R, s, t, h1, h2, h4⟩ h _
  exact ⟨R, s, t, h1, h2, h _ h4⟩
def fUsL : Ph := fun ds k kx => ∃ R s t, ds = [sgn s, sgn t, .lst (R.map rdD)] ∧ R.length ≤ 8 ∧ k (.lst (natD (usedW R s t)))
theorem m_usL : ∀ ds k1 k2 x1 x2, fUsL ds k1 x1 → (∀ d, k1 d → k2 d) → (∀ c ks es, x1 c ks es → x2 c ks es) → fUsL ds k2 x2 := by
  rintro ds k1 k2 x1 x2 ⟨R, s, t, h1, h2, h3⟩ h _
  exact ⟨R, s, t, h1, h2, h _ h3⟩
section
variable {ca : Str → Addr} {P : Program} {w : World} {K : PySem.W.Frag} {mg : Str → Option Value} {base : Heap}
theorem ok_roL {f : Addr} {fd : FuncData} {f2 : Addr} {fd2 : FuncData} (D : Dd K mg "routes_on" sRo ["place", "goal", "roads", "met", "begun"] f fd) (DO : Dd K mg "other_end" sOe ["road", "place"] f2 fd2) (B : Tb mg) : ∀ n : Nat, FnG P w K mg base CX0 (n + 2) f fd ["place", "goal", "roads", "met", "begun"] (spP ca K 5 (fRoL n))
  | 0 => by
    refine fnP D.F scRo rfl (fun cdv A outer s H E ds kd gd hr hl hφ => ?_) (m_roL 0)
    obtain ⟨R, t, u, z, b, _, h, _⟩ := hφ
    exact absurd h (Nat.not_lt_zero _)
  | n + 1 => by
    have ih := ok_roL D DO B n
    refine fnP D.F scRo rfl (fun cdv A outer s H E ds kd gd hr hl hφ => ?_) (m_roL (n + 1))
    obtain ⟨R, t, u, z, b, rfl, hm, hz, hb, hlen, hk⟩ := hφ
    have hu := hr.units
    refine ab_cons (as_if (at_eq hu ?_))
    walk_at "av"
    walk_at "av"
    refine eqStr ?_
    refine ⟨_, rfl, fun h1 => ?_, fun h1 => ?_⟩
    · have e : u = t := by
        have z1 : decide ((⟨#[u]⟩ : Str) = ⟨#[t]⟩) = true := h1
        rw [sgn_eq] at z1
        exact of_decide_eq_true z1
      rw [rts, if_pos e] at hk
      refine ab_one (as_ret (ax_lst (aa_cons ?_)))
      walk_at "av"
      refine aa_nil ?_
      exact ⟨by simp, _, rfl, hk⟩
    have ne : u ≠ t := by
      have z1 : decide ((⟨#[u]⟩ : Str) = ⟨#[t]⟩) = false := h1
      rw [sgn_eq] at z1
      exact of_decide_eq_false z1
    rw [rts_eq ne] at hk hlen
    refine ab_nil ?_
    refine ab_cons (as_cell 5 scRo.nd rfl (.inl rfl) (Nat.le_of_ble_eq_true rfl) ?_)
    refine al_lst (aa_nil ?_)
    refine ⟨Nat.le_of_ble_eq_true rfl, ?_⟩
    refine ab_cons (as_enL rfl PassesOwn.never rfl B.enu (pg_tup rfl (pgs_cons (pg_name (i := 6) scRo.nd rfl (Or.inl rfl)) (pgs_cons (pg_name (i := 7) scRo.nd rfl (Or.inl rfl)) pgs_nil))) (tg_tup (tgs_cons tg_name (tgs_cons tg_name tgs_nil))) ?_)
    walk_at "av"
    refine ⟨_, rfl, fun i e c => c = [some (((List.range i).flatMap (stp R t n u z b)).map wayD)] ∧ ∃ y6 y7 y8, e = [some (.im (sgn u)), some (.im (sgn t)), some (.im (.lst (R.map rdD))), some (.im (.str (zS z))), some (.im (wayD b)), some (.ow 0), y6, y7, y8], ⟨rfl, _, _, _, rfl⟩, ?_, ?_⟩
    · rintro i d e c hd ⟨rfl, y6, y7, y8, rfl⟩
      rw [List.getElem?_map] at hd
      obtain ⟨r, er, ed⟩ := Option.map_eq_some_iff.mp hd
      subst ed
      have lt := (List.getElem?_eq_some_iff.mp er).1
      refine ⟨_, rfl, rfl, _, _, rfl, ⟨Nat.le_of_ble_eq_true rfl, _, _, rfl, ⟨Nat.le_of_ble_eq_true rfl, rfl, ?_⟩⟩⟩
      have pl := part_le (f := stp R t n u z b) (n := R.length) (i := i + 1) lt
      rw [range_snoc, List.length_append] at pl
      refine ab_one (as_if (at_inT ?_))
      walk_at "av"
      refine ax_takeT ?_
      walk_at "av"
      refine ax_int ?_
      refine ⟨2, _, rfl, rfl, Nat.le_of_ble_eq_true rfl, ?_⟩
      refine ⟨⟨#[u]⟩, [⟨#[r.lo]⟩, ⟨#[r.hi]⟩], rfl, .inr rfl, ?_⟩
      rw [inR]
      refine ⟨_, rfl, fun h2 => ?_, fun h2 => ?_⟩
      · have h2' : u = r.lo ∨ u = r.hi := of_decide_eq_true h2
        refine ab_cons (as_set 8 scRo.nd rfl (.inl rfl) (Nat.le_of_ble_eq_true rfl) ?_)
        refine ax_callP (ok_oe DO B) gd (hr.mono (by omega)) rfl DO.g DO.F.kp DO.b ?_ (mono := m_oe)
        refine aa_cons ?_
        walk_at "av"
        refine aa_cons ?_
        walk_at "av"
        refine aa_nil ?_
        refine ⟨rfl, r, u, rfl, ?_⟩
        refine ab_one (as_if (at_ninS ?_))
        walk_at "av"
        walk_at "av"
        refine ⟨farR r u, zS z, rfl, rfl, ?_⟩
        refine ⟨_, rfl, fun h4 => ?_, fun h4 => ?_⟩
        · have hv : farR r u ∉ z := by
            have z1 : (!decide (farR r u ∈ z)) = true := h4
            intro q
            rw [decide_eq_true q] at z1
            cases z1
          have es : stp R t n u z b i = rts R t n (farR r u) (z ++ [farR r u]) (b ++ [i]) := by
            unfold stp
            rw [er]
            dsimp only
            rw [if_pos ⟨h2', hv⟩]
          rw [es] at pl
          have ml := meas_lt (i := i) er hv
          refine ab_one (as_expr (ax_extend ?_))
          walk_at "av"
          refine ⟨0, _, rfl, rfl, ?_⟩
          refine ax_callP ih gd hr rfl D.g D.F.kp D.b ?_ (mono := m_roL n)
          refine aa_cons ?_
          walk_at "av"
          refine aa_cons ?_
          walk_at "av"
          refine aa_cons ?_
          walk_at "av"
          refine aa_cons (ax_add ?_)
          walk_at "av"
          walk_at "av"
          refine ⟨by show z.toArray.size + 1 ≤ 16000000; rw [List.size_toArray]; omega, ?_⟩
          refine aa_cons (ax_add ?_)
          walk_at "av"
          refine ax_tup (aa_cons ?_)
          walk_at "av"
          refine aa_nil ?_
          refine ⟨by simp, ?_⟩
          refine ⟨by rw [List.length_map]; simp only [List.length_singleton]; omega, ?_⟩
          refine aa_nil ?_
          refine ⟨rfl, R, t, farR r u, z ++ [farR r u], b ++ [i], ?_, by omega, by rw [List.length_append, List.length_singleton]; omega, by rw [List.length_append, List.length_singleton]; omega, by omega, ?_⟩
          · rw [zS_snoc, way_snoc]
            rfl
          refine ⟨_, _, rfl, rfl, by rw [List.length_map, List.length_map]; omega, ?_⟩
          refine ⟨?_, _, _, _, rfl⟩
          rw [range_snoc, es, List.map_append]
          rfl
        · have hv : farR r u ∈ z := by
            have z1 : (!decide (farR r u ∈ z)) = false := h4
            by_cases q : farR r u ∈ z
            · exact q
            · rw [decide_eq_false q] at z1
              cases z1
          have es : stp R t n u z b i = [] := by
            unfold stp
            rw [er]
            dsimp only
            rw [if_neg fun q => q.2 hv]
          refine ab_nil ⟨?_, _, _, _, rfl⟩
          rw [range_snoc, es, List.append_nil]
      · have h2' : ¬ (u = r.lo ∨ u = r.hi) := of_decide_eq_false h2
        have es : stp R t n u z b i = [] := by
          unfold stp
          rw [er]
          dsimp only
          rw [if_neg fun q => h2' q.1]
        refine ab_nil ⟨?_, _, _, _, rfl⟩
        rw [range_snoc, es, List.append_nil]
    · rintro e c ⟨rfl, y6, y7, y8, rfl⟩
      rw [List.length_map]
      refine ab_frz 0 _ rfl ?_
      refine ab_one (as_ret ?_)
      walk_at "av"
      exact ⟨_, rfl, hk⟩
theorem ok_rtsL {f f1 f2 : Addr} {fd fd1 fd2 : FuncData} (F : Fun K "routes" "routes" sRts f fd) (B : Tb mg) (D1 : Dd K mg "routes_on" sRo ["place", "goal", "roads", "met", "begun"] f1 fd1) (D2 : Dd K mg "other_end" sOe ["road", "place"] f2 fd2) : FnG P w K mg base CX0 20 f fd ["origin", "goal", "roads"] (spP ca K 3 fRtsL) := by
  refine fnP F scRts rfl (fun cdv A outer s H E ds kd gd hr hl hφ => ?_) m_rtsL
  obtain ⟨R, s, t, rfl, h8, hk⟩ := hφ
  have hlen := Nat.le_trans (rts_8 (R := R) (t := t) (n := 17) (u := s) (b := []) h8) (show 109601 ≤ 16000000 by decide)
  refine ab_one (as_ret ?_)
  refine ax_tof rfl B.tup (aa_cons ?_)
  refine ax_callP (ok_roL D1 D2 B 17) gd hr rfl D1.g D1.F.kp D1.b ?_ (mono := m_roL 17)
  refine aa_cons ?_
  walk_at "av"
  refine aa_cons ?_
  walk_at "av"
  refine aa_cons ?_
  walk_at "av"
  refine aa_cons ?_
  walk_at "av"
  refine aa_cons (ax_tup (aa_nil ?_))
  refine ⟨Nat.zero_le _, ?_⟩
  refine aa_nil ?_
  have ml := meas_le (R := R) (z := [s])
  have ml2 : meas R [s] < 17 := by omega
  refine ⟨rfl, R, t, s, [s], [], rfl, ml2, by simp, by simp, hlen, ?_⟩
  refine aa_nil ?_
  exact ⟨_, _, rfl, rfl, _, .inl rfl, _, rfl, hk⟩
theorem ok_usL {f f1 f2 f3 : Addr} {fd fd1 fd2 fd3 : FuncData} (F : Fun K "used_indexes" "used_indexes" sUs f fd) (B : Tb mg) (D1 : Dd K mg "routes_on" sRo ["place", "goal", "roads", "met", "begun"] f1 fd1) (D2 : Dd K mg "other_end" sOe ["road", "place"] f2 fd2) (D3 : Dd K mg "routes" sRts ["origin", "goal", "roads"] f3 fd3) :
    FnG P w K mg base CX0 21 f fd ["origin", "goal", "roads"] (spP ca K 3 fUsL) := by
  have ms := B.srt
  refine fnP F scUs rfl (fun cdv A outer s H E ds kd gd hr hl hφ => ?_) m_usL
  obtain ⟨R, s, t, rfl, h8, hk⟩ := hφ
  refine ab_one (as_ret (ax_al (al_uni 3 4 rfl scUs.nd rfl ms blkUs (by decide) (Nat.le_of_ble_eq_true rfl) (Nat.le_of_ble_eq_true rfl) (fun _ _ _ _ _ => pg_name (i := 3) scUs.nd rfl (Or.inl rfl)) (fun _ _ _ _ _ => pg_name (i := 4) scUs.nd rfl (Or.inl rfl))
    (fun _ _ _ _ _ => pe_var (i := 3) rfl (.inl rfl)) (fun _ _ _ _ _ => pe_var (i := 4) rfl (.inl rfl)) ?_)))
  refine ax_callP (ok_rtsL D3.F B D1 D2) gd hr rfl D3.g D3.F.kp D3.b ?_ (mono := m_rtsL)
  refine aa_cons ?_
  walk_at "av"
  refine aa_cons ?_
  walk_at "av"
  refine aa_cons ?_
  walk_at "av"
  refine aa_nil ?_
  refine ⟨rfl, R, s, t, rfl, h8, ?_⟩
  refine ⟨(allW R s t).map fun w => w.map fun i : Nat => (i : Int), ?_, fun w hw k hkw => ?_, fun ns hs hm => ?_⟩
  · rw [List.map_map]
    congr 3
    exact funext fun w => way_ints w
  · obtain ⟨u, hu, rfl⟩ := List.mem_map.mp hw
    obtain ⟨i, hi, rfl⟩ := List.mem_map.mp hkw
    have := used_lt hu i hi
    omega
  · have e : ns = (usedW R s t).map fun i : Nat => (i : Int) := asc_eq hs (cast_asc usedW_asc) fun k => by
      rw [hm k, List.mem_map]
      constructor
      · rintro ⟨w, hw, hkw⟩
        obtain ⟨u, hu, rfl⟩ := List.mem_map.mp hw
        obtain ⟨i, hi, rfl⟩ := List.mem_map.mp hkw
        exact ⟨i, usedW_mem.mpr ⟨u, hu, hi⟩, rfl⟩
      · rintro ⟨i, hi, rfl⟩
        obtain ⟨u, hu, hiu⟩ := usedW_mem.mp hi
        exact ⟨_, List.mem_map.mpr ⟨u, hu, rfl⟩, List.mem_map.mpr ⟨i, hiu, rfl⟩⟩
    subst e
    rw [List.map_map]
    exact ⟨_, rfl, hk⟩
end
end Kw
namespace Kw
abbrev sNix : Stmt := topS 28
theorem scNix : FnScope ["web", "index"] ["web", "index"] (defScope sNix) := ⟨rfl, rfl, rfl, by decide +kernel, rfl, by decide +kernel, by decide +kernel⟩
def fNix : Ph := fun ds k kx => ∃ R s t, ∃ i : Nat, ds = [webO R s t, .int (i : Int)] ∧ i < R.length ∧ R.length ≤ 8 ∧ k .non
theorem m_nix : ∀ ds k1 k2 x1 x2, fNix ds k1 x1 → (∀ d, k1 d → k2 d) → (∀ c ks es, x1 c ks es → x2 c ks es) → fNix ds k2 x2 := by
  rintro ds k1 k2 x1 x2 ⟨R, s, t, i, h1, h2, h4, h3⟩ h _
  exact ⟨R, s, t, i, h1, h2, h4, h _ h3⟩
section
variable {ca : Str → Addr} {P : Program} {w : World} {K : PySem.W.Frag} {mg : Str → Option Value} {base : Heap}
theorem ok_nix {f f1 f2 : Addr} {fd fd1 fd2 : FuncData} (F : Fun K "need_index" "need_index" sNix f fd) (B : Tb mg) (WC : WebC K mg (ca "Web")) (D1 : Dd K mg "is_whole" sWhole ["value", "most"] f1 fd1) (W : WebN K (ca "Web") f2 fd2) : FnG P w K mg base CX0 3 f fd ["web", "index"] (spP ca K 2 fNix) := by
  refine fnP F scNix rfl (fun cdv A outer s0 H E ds kd gd hr hl hφ => ?_) m_nix
  obtain ⟨R, s, t, i, rfl, hi, h8, hk⟩ := hφ
  refine ab_one (as_if (at_not (at_tru ?_)))
  refine ax_callP (ok_whole D1.F B) gd (hr.mono (by decide)) rfl D1.g D1.F.kp D1.b ?_ (mono := m_whole)
  refine aa_cons ?_
  walk_at "av"
  refine aa_cons (ax_minus ?_)
  refine ax_lenO W.at_ W.fn (ok_ln W WC B) gd hr W.b rfl B.len (aa_cons ?_) (mono := m_ln)
  walk_at "av"
  refine aa_nil ?_
  refine ⟨_, _, rfl, R, s, t, rfl, _, rfl, by omega, by omega, ?_⟩
  refine ax_int ?_
  refine iOp trivial ?_
  refine aa_nil ?_
  refine ⟨rfl, _, _, rfl, rfl, ?_⟩
  have e : wholeB (.int (i : Int)) ((R.length : Int) - 1) = true := by
    unfold wholeB
    dsimp only
    simp
    omega
  rw [e]
  exact ⟨fun z => (Bool.false_ne_true z).elim, fun _ => ab_nil hk⟩
end
end Kw
namespace Kw
abbrev sNxs : Stmt := topS 29
theorem scNxs : FnScope ["web", "indexes", "least", "at", "index"] ["web", "indexes"] (defScope sNxs) := ⟨rfl, rfl, rfl, by decide +kernel, rfl, by decide +kernel, by decide +kernel⟩
/-- indexes ascending, of roads -/
def Lot (R : List Rd) (G : List Nat) : Prop := G.Pairwise (· < ·) ∧ ∀ i ∈ G, i < R.length
def fNxs : Ph := fun ds k kx => ∃ R s t G, ds = [webO R s t, wayD G] ∧ R.length ≤ 8 ∧ Lot R G ∧ k .non
theorem m_nxs : ∀ ds k1 k2 x1 x2, fNxs ds k1 x1 → (∀ d, k1 d → k2 d) → (∀ c ks es, x1 c ks es → x2 c ks es) → fNxs ds k2 x2 := by
  rintro ds k1 k2 x1 x2 ⟨R, s, t, G, h1, h2, h4, h3⟩ h _
  exact ⟨R, s, t, G, h1, h2, h4, h _ h3⟩
abbrev sEq : Stmt := webS 8
theorem scEq : FnScope ["self", "other"] ["self", "other"] (defScope sEq) := ⟨rfl, rfl, rfl, by decide +kernel, rfl, by decide +kernel, by decide +kernel⟩
def fEq : Ph := fun ds k kx => ∃ R s t, ds = [webO R s t, webO R s t] ∧ Wgood R s t ∧ k (.bl true)
theorem m_eq : ∀ ds k1 k2 x1 x2, fEq ds k1 x1 → (∀ d, k1 d → k2 d) → (∀ c ks es, x1 c ks es → x2 c ks es) → fEq ds k2 x2 := by
  rintro ds k1 k2 x1 x2 ⟨R, s, t, h1, h2, h3⟩ h _
  exact ⟨R, s, t, h1, h2, h _ h3⟩
abbrev sCos : Stmt := webS 9
theorem scCos : FnScope ["self", "index", "base", "rise", "road", "roads"] ["self", "index", "base", "rise"] (defScope sCos) := ⟨rfl, rfl, rfl, by decide +kernel, rfl, by decide +kernel, by decide +kernel⟩
def fCos : Ph := fun ds k kx => ∃ R s t r, ∃ i : Nat, ∃ x y : Int, ds = [webO R s t, .int (i : Int), .int x, .int y] ∧ Wgood R s t ∧ R[i]? = some r ∧ (0 ≤ x ∧ x ≤ 1000000) ∧ (0 ≤ y ∧ y ≤ 1000000) ∧ k (webO (setC R i r x y) s t)
theorem m_cos : ∀ ds k1 k2 x1 x2, fCos ds k1 x1 → (∀ d, k1 d → k2 d) → (∀ c ks es, x1 c ks es → x2 c ks es) → fCos ds k2 x2 := by
  rintro ds k1 k2 x1 x2 ⟨R, s, t, r, i, x, y, h1, h2, h4, h5, h6, h3⟩ h _
  exact ⟨R, s, t, r, i, x, y, h1, h2, h4, h5, h6, h _ h3⟩
abbrev sClo : Stmt := webS 10
theorem scClo : FnScope ["self", "indexes", "kept", "used", "index", "road"] ["self", "indexes"] (defScope sClo) := ⟨rfl, rfl, rfl, by decide +kernel, rfl, by decide +kernel, by decide +kernel⟩
theorem blkKp : BlkOk ["self", "indexes", "kept", "used", "index", "road"] (defScope sClo) (compSx [("index", .local), ("road", .local), ("indexes", .free)]) [("index", 4), ("road", 5)] := blkOk_by (by decide +kernel)
theorem blkUd : BlkOk ["self", "indexes", "kept", "used", "index", "road"] (defScope sClo) (compSx [("index", .local), ("kept", .free)]) [("index", 4)] := blkOk_by (by decide +kernel)
def outB (G : List Nat) (i : Nat) : Bool := !decide (i ∈ G)
def leftR (R : List Rd) (s t : Nat) (G : List Nat) : List Rd := keepR (lefB (outB G) R s t) R
def fClo : Ph := fun ds k kx => ∃ R s t G, ds = [webO R s t, wayD G] ∧ Wgood R s t ∧ Lot R G ∧ 0 < (leftR R s t G).length ∧ k (webO (leftR R s t G) s t)
theorem m_clo : ∀ ds k1 k2 x1 x2, fClo ds k1 x1 → (∀ d, k1 d → k2 d) → (∀ c ks es, x1 c ks es → x2 c ks es) → fClo ds k2 x2 := by
  rintro ds k1 k2 x1 x2 ⟨R, s, t, G, h1, h2, h4, h5, h3⟩ h _
  exact ⟨R, s, t, G, h1, h2, h4, h5, h _ h3⟩
abbrev sWid : Stmt := webS 12
theorem scWid : FnScope ["self", "road", "many", "roads"] ["self", "road"] (defScope sWid) := ⟨rfl, rfl, rfl, by decide +kernel, rfl, by decide +kernel, by decide +kernel⟩
def fWid : Ph := fun ds k kx => ∃ R s t r, ds = [webO R s t, rdD r] ∧ Wgood R s t ∧ R.length < 8 ∧ rdOk r = true ∧ ((r.lo = s ∧ r.hi = t) ∨ (r.lo = t ∧ r.hi = s)) ∧ k (webO (R ++ [r]) s t)
theorem m_wid : ∀ ds k1 k2 x1 x2, fWid ds k1 x1 → (∀ d, k1 d → k2 d) → (∀ c ks es, x1 c ks es → x2 c ks es) → fWid ds k2 x2 := by
  rintro ds k1 k2 x1 x2 ⟨R, s, t, r, h1, h2, h4, h5, h6, h3⟩ h _
  exact ⟨R, s, t, r, h1, h2, h4, h5, h6, h _ h3⟩
/-- a method of Web -/
structure WebQ (K : PySem.W.Frag) (C : Addr) (n ql : Str) (st : Stmt) (ps : List Str) (f : Addr) (fd : FuncData) : Prop where
  mt : Meth K C n f
  F : Fun K n ql st f fd
  b : Binds K fd ps []
/-- what the web's own functions need -/
structure WbF (ca : Str → Addr) (K : PySem.W.Frag) (mg : Str → Option Value) : Prop where
  B : Tb mg
  WC : WebC K mg (ca "Web")
  L8 : ∃ t, mg "MOST_ROADS" = some (.int 8 t)
  LC : ∃ t, mg "MOST_COST" = some (.int 1000000 t)
  ini : ∃ f fd, WebI K (ca "Web") f fd
  ln : ∃ f fd, WebN K (ca "Web") f fd
  ro : ∃ f fd, Dd K mg "routes_on" sRo ["place", "goal", "roads", "met", "begun"] f fd
  oe : ∃ f fd, Dd K mg "other_end" sOe ["road", "place"] f fd
  rts : ∃ f fd, Dd K mg "routes" sRts ["origin", "goal", "roads"] f fd
  us : ∃ f fd, Dd K mg "used_indexes" sUs ["origin", "goal", "roads"] f fd
  nw : ∃ f fd, Dd K mg "need_ways" sNw ["origin", "goal", "roads"] f fd
  nr : ∃ f fd, Dd K mg "need_roads" sNr ["roads"] f fd
  who : ∃ f fd, Dd K mg "is_whole" sWhole ["value", "most"] f fd
  plc : ∃ f fd, Dd K mg "is_place" sPlc ["value"] f fd
  cst : ∃ f fd, Dd K mg "is_cost" sCst ["value"] f fd
  rd : ∃ f fd, Dd K mg "is_road" sRd ["value"] f fd
  nix : ∃ f fd, Dd K mg "need_index" sNix ["web", "index"] f fd
  nxs : ∃ f fd, Dd K mg "need_indexes" sNxs ["web", "indexes"] f fd
section
variable {ca : Str → Addr} {P : Program} {w : World} {K : PySem.W.Frag} {mg : Str → Option Value} {base : Heap}
theorem wbf_ini (A : WbF ca K mg) : ∃ f fd, WebI K (ca "Web") f fd ∧ FnG P w K mg base CX0 23 f fd ["self", "origin", "goal", "roads"] (spIni ca K "Web" 3 webKs fIni) := by
  obtain ⟨_, _, WI⟩ := A.ini
  obtain ⟨_, _, Dro⟩ := A.ro
  obtain ⟨_, _, Doe⟩ := A.oe
  obtain ⟨_, _, Drts⟩ := A.rts
  obtain ⟨_, _, Dus⟩ := A.us
  obtain ⟨_, _, Dnw⟩ := A.nw
  obtain ⟨_, _, Dnr⟩ := A.nr
  obtain ⟨_, _, Dwho⟩ := A.who
  obtain ⟨_, _, Dplc⟩ := A.plc
  obtain ⟨_, _, Dcst⟩ := A.cst
  obtain ⟨_, _, Drd⟩ := A.rd
  exact ⟨_, _, WI, ok_ini (ca := ca) (C := ca "Web") (P := P) (w := w) (base := base) WI A.WC A.B A.L8 A.LC Dro Doe Drts Dus Dnw Dnr Dwho Dplc Dcst Drd⟩
theorem ok_eq {f : Addr} {fd : FuncData} (F : Fun K "__eq__" "Web.__eq__" sEq f fd) (B : Tb mg) (WC : WebC K mg (ca "Web")) : FnG P w K mg base CX0 1 f fd ["self", "other"] (spP ca K 2 fEq) := by
  refine fnP F scEq rfl (fun cdv A outer s0 H E ds kd gd hr hl hφ => ?_) m_eq
  obtain ⟨R, s, t, rfl, hw, hk⟩ := hφ
  have hu := hr.units
  refine ab_one (as_ret (ax_and (ax_isC ?_)))
  refine ax_typeO rfl B.ty (aa_cons ?_)
  walk_at "av"
  refine aa_nil ?_
  refine ⟨_, _, _, rfl, ?_⟩
  refine ax_gcl (c := "Web") rfl WC.g ?_
  refine ⟨_, rfl, rfl, ?_⟩
  refine ⟨_, rfl, fun _ => ?_, fun z => (by cases z)⟩
  refine ax_and (ax_eq hu (ax_fld ?_))
  walk_at "av"
  refine ⟨_, _, _, _, rfl, WC.cls, WC.n1, rfl, ?_⟩
  refine ax_fld ?_
  walk_at "av"
  refine ⟨_, _, _, _, rfl, WC.cls, WC.n1, rfl, ?_⟩
  refine eqStr ?_
  rw [decide_eq_true rfl]
  refine ⟨_, rfl, fun _ => ?_, fun z => (by cases z)⟩
  refine ax_and (ax_eq hu (ax_fld ?_))
  walk_at "av"
  refine ⟨_, _, _, _, rfl, WC.cls, WC.n2, rfl, ?_⟩
  refine ax_fld ?_
  walk_at "av"
  refine ⟨_, _, _, _, rfl, WC.cls, WC.n2, rfl, ?_⟩
  refine eqStr ?_
  rw [decide_eq_true rfl]
  refine ⟨_, rfl, fun _ => ?_, fun z => (by cases z)⟩
  refine ax_one (ax_eq hu (ax_fld ?_))
  walk_at "av"
  refine ⟨_, _, _, _, rfl, WC.cls, WC.n3, rfl, ?_⟩
  refine ax_fld ?_
  walk_at "av"
  refine ⟨_, _, _, _, rfl, WC.cls, WC.n3, rfl, ?_⟩
  exact eq_sm (ly_rds hw.ok) (by decide) rfl rfl ⟨_, rfl, hk⟩
theorem ok_nxs {f f1 f2 : Addr} {fd fd1 fd2 : FuncData} (F : Fun K "need_indexes" "need_indexes" sNxs f fd) (B : Tb mg) (WC : WebC K mg (ca "Web")) (D1 : Dd K mg "is_whole" sWhole ["value", "most"] f1 fd1) (W : WebN K (ca "Web") f2 fd2) : FnG P w K mg base CX0 3 f fd ["web", "indexes"] (spP ca K 2 fNxs) := by
  refine fnP F scNxs rfl (fun cdv A outer s0 H E ds kd gd hr hl hφ => ?_) m_nxs
  obtain ⟨R, s, t, G, rfl, h8, ⟨asc, hlt⟩, hk⟩ := hφ
  have hu := hr.units
  refine ab_cons (as_if (at_isnot ?_))
  refine ax_type rfl B.ty (aa_cons ?_)
  walk_at "av"
  refine aa_nil ?_
  refine ⟨_, _, rfl, rfl, ?_⟩
  refine ax_gty (n := "tuple") rfl B.tup (by decide +kernel) ?_
  refine ⟨_, _, rfl, rfl, ?_⟩
  refine ⟨_, rfl, fun z => (by cases z), fun _ => ab_nil ?_⟩
  refine ab_cons (as_set 2 scNxs.nd rfl (.inl rfl) (Nat.le_of_ble_eq_true rfl) ?_)
  refine ax_int ?_
  refine ab_one (as_enT rfl PassesOwn.never rfl B.enu (pg_tup rfl (pgs_cons (pg_name (i := 3) scNxs.nd rfl (Or.inl rfl)) (pgs_cons (pg_name (i := 4) scNxs.nd rfl (Or.inl rfl)) pgs_nil))) (tg_tup (tgs_cons tg_name (tgs_cons tg_name tgs_nil))) ?_)
  walk_at "av"
  refine ⟨_, rfl, fun n e cc => cc = [] ∧ ∃ L : Int, (∀ j k : Nat, n ≤ j → G[j]? = some k → L ≤ k) ∧ ∃ y3 y4, e = [some (.im (webO R s t)), some (.im (wayD G)), some (.im (.int L)), y3, y4], ⟨rfl, 0, fun j k _ _ => by omega, _, _, rfl⟩, ?_, ?_⟩
  · rintro n d e cc hd ⟨rfl, L, hL, y3, y4, rfl⟩
    rw [List.getElem?_map] at hd
    obtain ⟨i, hi, ed⟩ := Option.map_eq_some_iff.mp hd
    subst ed
    have il := hlt i (List.mem_of_getElem? hi)
    refine ⟨_, rfl, rfl, _, _, rfl, ⟨Nat.le_of_ble_eq_true rfl, _, _, rfl, ⟨Nat.le_of_ble_eq_true rfl, rfl, ?_⟩⟩⟩
    refine ab_cons (as_if (aw_at (aw_or (at_not (at_tru ?_)))))
    refine ax_callP (ok_whole D1.F B) gd (hr.mono (by decide)) rfl D1.g D1.F.kp D1.b ?_ (mono := m_whole)
    refine aa_cons ?_
    walk_at "av"
    refine aa_cons (ax_minus ?_)
    refine ax_lenO W.at_ W.fn (ok_ln W WC B) gd (hr.mono (by decide)) W.b rfl B.len (aa_cons ?_) (mono := m_ln)
    walk_at "av"
    refine aa_nil ?_
    refine ⟨_, _, rfl, R, s, t, rfl, _, rfl, by omega, by omega, ?_⟩
    refine ax_int ?_
    refine iOp trivial ?_
    refine aa_nil ?_
    refine ⟨rfl, _, _, rfl, rfl, ?_⟩
    have e : wholeB (.int (i : Int)) ((R.length : Int) - 1) = true := by
      unfold wholeB
      dsimp only
      simp
      omega
    rw [e]
    refine ⟨fun z => (Bool.false_ne_true z).elim, fun _ => ?_⟩
    refine aw_or1 (at_lt ?_)
    walk_at "av"
    walk_at "av"
    refine iCmp ?_
    have e2 : decide ((i : Int) < L) = false := decide_eq_false (by have := hL n i (Nat.le_refl _) hi; omega)
    rw [e2]
    refine ⟨_, rfl, fun z => (Bool.false_ne_true z).elim, fun _ => ab_nil ?_⟩
    refine ab_one (as_set 2 scNxs.nd rfl (.inl rfl) (Nat.le_of_ble_eq_true rfl) ?_)
    refine ax_add ?_
    walk_at "av"
    refine ax_int ?_
    refine iAdd ?_
    refine ⟨rfl, (i : Int) + 1, fun j k hj hk2 => ?_, _, _, rfl⟩
    have nl := (List.getElem?_eq_some_iff.mp hi).1
    have jl := (List.getElem?_eq_some_iff.mp hk2).1
    have := List.pairwise_iff_getElem.mp asc n j nl jl (by omega)
    rw [(List.getElem?_eq_some_iff.mp hi).2, (List.getElem?_eq_some_iff.mp hk2).2] at this
    omega
  · rintro e cc ⟨rfl, L, hL, y3, y4, rfl⟩
    exact hk
theorem ok_cos {f : Addr} {fd : FuncData} (F : Fun K "costing" "Web.costing" sCos f fd) (A : WbF ca K mg) : FnG P w K mg base CX0 25 f fd ["self", "index", "base", "rise"] (spP ca K 4 fCos) := by
  obtain ⟨_, _, WI, OI⟩ := wbf_ini (P := P) (w := w) (base := base) A
  obtain ⟨_, _, Wn⟩ := A.ln
  obtain ⟨_, _, D1⟩ := A.nix
  obtain ⟨_, _, D2⟩ := A.who
  obtain ⟨_, _, D3⟩ := A.cst
  have B := A.B
  have WC := A.WC
  refine fnP F scCos rfl (fun cdv A' outer s0 H E ds kd gd hr hl hφ => ?_) m_cos
  obtain ⟨R, s, t, r, i, x, y, rfl, hw, hi, hx, hy, hk⟩ := hφ
  have il := (List.getElem?_eq_some_iff.mp hi).1
  have h8 := hw.few
  have erd : (R.map rdD)[i]? = some (rdD r) := by rw [List.getElem?_map, hi]; rfl
  have wx : wholeB (.int x) 1000000 = true := by unfold wholeB; dsimp only; simp; exact hx
  have wy : wholeB (.int y) 1000000 = true := by unfold wholeB; dsimp only; simp; exact hy
  refine ab_cons (as_expr ?_)
  refine ax_callP (ok_nix D1.F B WC D2 Wn) gd (hr.mono (by decide)) rfl D1.g D1.F.kp D1.b ?_ (mono := m_nix)
  refine aa_cons ?_
  walk_at "av"
  refine aa_cons ?_
  walk_at "av"
  refine aa_nil ?_
  refine ⟨rfl, R, s, t, i, rfl, il, h8, ?_⟩
  refine ab_cons (as_if (at_not (at_tru ?_)))
  refine ax_callP (ok_cst D3.F B A.LC D2) gd (hr.mono (by decide)) rfl D3.g D3.F.kp D3.b ?_ (mono := m_cst)
  refine aa_cons ?_
  walk_at "av"
  refine aa_nil ?_
  refine ⟨rfl, _, rfl, rfl, ?_⟩
  rw [wx]
  refine ⟨fun z => (Bool.false_ne_true z).elim, fun _ => ab_nil ?_⟩
  refine ab_cons (as_if (at_not (at_tru ?_)))
  refine ax_callP (ok_cst D3.F B A.LC D2) gd (hr.mono (by decide)) rfl D3.g D3.F.kp D3.b ?_ (mono := m_cst)
  refine aa_cons ?_
  walk_at "av"
  refine aa_nil ?_
  refine ⟨rfl, _, rfl, rfl, ?_⟩
  rw [wy]
  refine ⟨fun z => (Bool.false_ne_true z).elim, fun _ => ab_nil ?_⟩
  refine ab_cons (as_set 4 scCos.nd rfl (.inl rfl) (Nat.le_of_ble_eq_true rfl) ?_)
  refine ax_add (ax_takeT ?_)
  refine ax_ix (ax_fld ?_)
  walk_at "av"
  refine ⟨_, _, _, _, rfl, WC.cls, WC.n3, rfl, ?_⟩
  walk_at "av"
  refine tIx (atI_of rfl erd) ?_
  refine ax_int ?_
  refine ⟨2, _, rfl, rfl, Nat.le_of_ble_eq_true rfl, ?_⟩
  refine ax_tup (aa_cons ?_)
  walk_at "av"
  refine aa_cons ?_
  walk_at "av"
  refine aa_nil ?_
  refine ⟨Nat.le_of_ble_eq_true rfl, ?_⟩
  refine ⟨Nat.le_of_ble_eq_true rfl, ?_⟩
  refine ab_cons (as_set 5 scCos.nd rfl (.inl rfl) (Nat.le_of_ble_eq_true rfl) ?_)
  refine ax_add (ax_add (ax_takeA (ax_fld ?_)))
  walk_at "av"
  refine ⟨_, _, _, _, rfl, WC.cls, WC.n3, rfl, ?_⟩
  walk_at "av"
  refine ⟨i, _, rfl, rfl, ?_⟩
  refine ax_tup (aa_cons ?_)
  walk_at "av"
  refine aa_nil ?_
  refine ⟨Nat.le_of_ble_eq_true rfl, ?_⟩
  refine ⟨by rw [List.length_take, List.length_map, List.length_singleton]; omega, ?_⟩
  refine ax_dropA (ax_fld ?_)
  walk_at "av"
  refine ⟨_, _, _, _, rfl, WC.cls, WC.n3, rfl, ?_⟩
  refine ax_add ?_
  walk_at "av"
  refine ax_int ?_
  refine iAdd ?_
  refine ⟨i + 1, _, rfl, rfl, ?_⟩
  refine ⟨by rw [List.length_append, List.length_take, List.length_drop, List.length_map, List.length_singleton]; omega, ?_⟩
  have e : (R.map rdD).take i ++ [Da.tup ([sgn r.lo, sgn r.hi] ++ [Da.int x, Da.int y])] ++ (R.map rdD).drop (i + 1) = (setC R i r x y).map rdD := by
    unfold setC
    rw [List.map_append, List.map_append, List.map_take, List.map_drop]
    rfl
  refine ab_one (as_ret ?_)
  refine ax_new (c := "Web") WI.mkw OI gd hr rfl WC.g WI.b rfl ?_ (mono := m_ini)
  refine aa_cons (ax_fld ?_)
  walk_at "av"
  refine ⟨_, _, _, _, rfl, WC.cls, WC.n1, rfl, ?_⟩
  refine aa_cons (ax_fld ?_)
  walk_at "av"
  refine ⟨_, _, _, _, rfl, WC.cls, WC.n2, rfl, ?_⟩
  refine aa_cons ?_
  walk_at "av"
  refine aa_nil ?_
  refine ⟨rfl, setC R i r x y, s, t, ?_, wg_set hw hi hx hy, ?_⟩
  · rw [← e]
    rfl
  · exact ⟨_, rfl, hk⟩
end
end Kw
namespace Kw
theorem any_memN {w : List Nat} {i : Nat} : ((w.map fun i : Nat => (i : Int)).any fun j => j == (i : Int)) = decide (i ∈ w) := by
  by_cases h : i ∈ w
  · rw [decide_eq_true h, List.any_eq_true]
    exact ⟨(i : Int), List.mem_map.mpr ⟨i, h, rfl⟩, by simp⟩
  · rw [decide_eq_false h, List.any_eq_false]
    rintro j hj
    obtain ⟨k, hk, rfl⟩ := List.mem_map.mp hj
    intro e
    have : (k : Int) = (i : Int) := by simpa using e
    have : k = i := by omega
    subst this
    exact h hk
theorem keep_snoc {R : List Rd} {p : Nat → Bool} {n : Nat} {r : Rd} (h : R[n]? = some r) : ((List.range (n + 1)).filter p).filterMap (fun i => R[i]?) = ((List.range n).filter p).filterMap (fun i => R[i]?) ++ (if p n = true then [r] else []) := by
  rw [List.range_succ, List.filter_append, List.filterMap_append]
  by_cases q : p n = true
  · rw [if_pos q, List.filter_cons_of_pos q]
    simp [h]
  · rw [if_neg q, List.filter_cons_of_neg q]
    simp
section
variable {ca : Str → Addr} {P : Program} {w : World} {K : PySem.W.Frag} {mg : Str → Option Value} {base : Heap}
theorem ok_clo {f : Addr} {fd : FuncData} (F : Fun K "closed" "Web.closed" sClo f fd) (A : WbF ca K mg) : FnG P w K mg base CX0 25 f fd ["self", "indexes"] (spP ca K 2 fClo) := by
  obtain ⟨_, _, WI, OI⟩ := wbf_ini (P := P) (w := w) (base := base) A
  obtain ⟨_, _, Wn⟩ := A.ln
  obtain ⟨_, _, D1⟩ := A.nxs
  obtain ⟨_, _, D2⟩ := A.who
  obtain ⟨_, _, Dro⟩ := A.ro
  obtain ⟨_, _, Doe⟩ := A.oe
  obtain ⟨_, _, Drts⟩ := A.rts
  obtain ⟨_, _, Dus⟩ := A.us
  have B := A.B
  have WC := A.WC
  refine fnP F scClo rfl (fun cdv A' outer s0 H E ds kd gd hr hl hφ => ?_) m_clo
  obtain ⟨R, s, t, G, rfl, hw, hG, hp, hk⟩ := hφ
  have hu := hr.units
  have h8 := hw.few
  have kl : (keepR (outB G) R).length ≤ 8 := by
    rw [keepR_at.1]
    refine Nat.le_trans (List.length_filter_le _ _) ?_
    rw [List.length_range]
    exact h8
  have ul : (usedW (keepR (outB G) R) s t).length = (leftR R s t G).length := by
    unfold leftR
    rw [← left_eq, keepR_at.1]
    rfl
  refine ab_cons (as_expr ?_)
  refine ax_callP (ok_nxs D1.F B WC D2 Wn) gd (hr.mono (by decide)) rfl D1.g D1.F.kp D1.b ?_ (mono := m_nxs)
  refine aa_cons ?_
  walk_at "av"
  refine aa_cons ?_
  walk_at "av"
  refine aa_nil ?_
  refine ⟨rfl, R, s, t, G, rfl, h8, hG, ?_⟩
  -- kept
  refine ab_cons (as_set 2 scClo.nd rfl (.inr rfl) (Nat.le_of_ble_eq_true rfl) ?_)
  refine ax_al (al_lcE (own := [("index", 4), ("road", 5)]) 4 5 rfl scClo.nd rfl B.enu blkKp (by decide) (by decide) (Nat.le_of_ble_eq_true rfl) (Nat.le_of_ble_eq_true rfl) ?_
    (fun _ _ _ _ _ => pg_tup rfl (pgs_cons (pg_name (i := 4) scClo.nd rfl (Or.inl rfl)) (pgs_cons (pg_name (i := 5) scClo.nd rfl (Or.inl rfl)) pgs_nil))) ?_)
  · rintro j hj v ev
    have hj' : j = 4 ∨ j = 5 := by simpa using hj
    rcases hj' with rfl | rfl <;> cases ev
  refine ax_fld ?_
  walk_at "av"
  refine ⟨_, _, _, _, rfl, WC.cls, WC.n3, rfl, ?_⟩
  refine ⟨_, rfl, fun n acc c1 => c1 = [] ∧ acc = (((List.range n).filter (outB G)).filterMap fun i => R[i]?).map rdD, ⟨rfl, rfl⟩, ?_, ?_⟩
  · rintro n d acc _ hd ⟨rfl, rfl⟩
    rw [List.getElem?_map] at hd
    obtain ⟨r, hr2, ed⟩ := Option.map_eq_some_iff.mp hd
    subst ed
    have nl := (List.getElem?_eq_some_iff.mp hr2).1
    have sn := keep_snoc (p := outB G) hr2
    have few : ((((List.range n).filter (outB G)).filterMap fun i => R[i]?).map rdD).length < 16000000 := by
      rw [List.length_map]
      refine Nat.lt_of_le_of_lt (List.length_filterMap_le _ _) ?_
      refine Nat.lt_of_le_of_lt (List.length_filter_le _ _) ?_
      rw [List.length_range]
      omega
    intro s' H' Cc cl fp
    refine at_nin ?_
    walk_at "av"
    walk_at "av"
    refine ⟨(n : Int), G.map fun i : Nat => (i : Int), rfl, .inr (by show AV.im (wayD G) = _; rw [way_ints]; rfl), ?_⟩
    rw [any_memN]
    refine ⟨_, rfl, fun h1 => ?_, fun h1 => ?_⟩
    · intro s' H' Cc cl fp
      walk_at "av"
      refine ⟨_, rfl, few, rfl, ?_⟩
      have h1' : outB G n = true := h1
      rw [sn, if_pos h1', List.map_append]
      rfl
    · refine ⟨rfl, ?_⟩
      have h1' : outB G n = false := h1
      rw [sn, if_neg (by rw [h1']; exact Bool.false_ne_true), List.append_nil]
  rintro acc _ ⟨rfl, rfl⟩
  rw [List.length_map]
  -- used
  refine ab_cons (as_set 3 scClo.nd rfl (.inl rfl) (Nat.le_of_ble_eq_true rfl) ?_)
  refine ax_callP (ok_usL Dus.F B Dro Doe Drts) gd (hr.mono (by decide)) rfl Dus.g Dus.F.kp Dus.b ?_ (mono := m_usL)
  refine aa_cons (ax_fld ?_)
  walk_at "av"
  refine ⟨_, _, _, _, rfl, WC.cls, WC.n1, rfl, ?_⟩
  refine aa_cons (ax_fld ?_)
  walk_at "av"
  refine ⟨_, _, _, _, rfl, WC.cls, WC.n2, rfl, ?_⟩
  refine aa_cons ?_
  walk_at "av"
  refine aa_nil ?_
  refine ⟨rfl, keepR (outB G) R, s, t, rfl, kl, ?_⟩
  refine ab_cons (as_if (at_eq hu ?_))
  refine ax_len rfl B.len (aa_cons ?_)
  walk_at "av"
  refine aa_nil ?_
  refine lenL ?_
  refine ax_int ?_
  refine eqInt ?_
  have e0 : (((natD (usedW (keepR (outB G) R) s t)).length : Int) == 0) = false := by
    unfold natD
    rw [List.length_map, ul]
    simp
    intro z
    rw [z] at hp
    exact absurd hp (by decide)
  rw [e0]
  refine ⟨_, rfl, fun z => (Bool.false_ne_true z).elim, fun _ => ab_nil ?_⟩
  refine ab_one (as_ret ?_)
  refine ax_new (c := "Web") WI.mkw OI gd hr rfl WC.g WI.b rfl ?_ (mono := m_ini)
  refine aa_cons (ax_fld ?_)
  walk_at "av"
  refine ⟨_, _, _, _, rfl, WC.cls, WC.n1, rfl, ?_⟩
  refine aa_cons (ax_fld ?_)
  walk_at "av"
  refine ⟨_, _, _, _, rfl, WC.cls, WC.n2, rfl, ?_⟩
  refine aa_cons (ax_tof rfl B.tup (aa_cons ?_))
  refine ax_al (al_lcL (own := [("index", 4)]) 4 rfl scClo.nd blkUd (by decide) (Nat.le_of_ble_eq_true rfl) ?_ (fun _ _ _ _ _ => pg_name (i := 4) scClo.nd rfl (Or.inl rfl)) ?_)
  · rintro j hj v ev
    obtain rfl : j = 4 := by simpa using hj
    cases ev
  walk_at "av"
  refine ⟨_, rfl, fun n acc c1 => c1 = [] ∧ acc = (((usedW (keepR (outB G) R) s t).take n).filterMap fun i => (keepR (outB G) R)[i]?).map rdD, ⟨rfl, rfl⟩, ?_, ?_⟩
  · rintro n d acc _ hd ⟨rfl, rfl⟩
    unfold natD at hd
    rw [List.getElem?_map] at hd
    obtain ⟨i, hi, ed⟩ := Option.map_eq_some_iff.mp hd
    subst ed
    have il : i < (keepR (outB G) R).length := by
      have m := List.mem_of_getElem? hi
      rw [usedW_keep] at m
      exact (keepI_lt m).1
    obtain ⟨r, er⟩ : ∃ r, (keepR (outB G) R)[i]? = some r := ⟨_, List.getElem?_eq_getElem il⟩
    have erd : ((keepR (outB G) R).map rdD)[i]? = some (rdD r) := by rw [List.getElem?_map, er]; rfl
    have nl := (List.getElem?_eq_some_iff.mp hi).1
    intro s' H' Cc cl fp
    refine ax_ix ?_
    walk_at "av"
    walk_at "av"
    refine lIx (atI_of rfl erd) ?_
    refine ⟨_, rfl, ?_, rfl, ?_⟩
    · rw [List.length_map]
      refine Nat.lt_of_le_of_lt (List.length_filterMap_le _ _) ?_
      rw [List.length_take, ul]
      unfold leftR
      rw [keepR_at.1]
      have : (keepI (lefB (outB G) R s t) R).length ≤ R.length := by
        refine Nat.le_trans (List.length_filter_le _ _) ?_
        rw [List.length_range]
        exact Nat.le_refl _
      omega
    · rw [List.take_succ, hi, List.filterMap_append, List.map_append]
      simp [er]
  rintro acc _ ⟨rfl, rfl⟩
  have elen : (natD (usedW (keepR (outB G) R) s t)).length = (usedW (keepR (outB G) R) s t).length := List.length_map ..
  rw [elen, List.take_length]
  refine aa_nil ?_
  refine ⟨_, _, rfl, rfl, _, .inl rfl, ?_⟩
  refine aa_nil ?_
  have el : (usedW (keepR (outB G) R) s t).filterMap (fun i => (keepR (outB G) R)[i]?) = leftR R s t G := by
    unfold leftR
    rw [← left_eq]
    rfl
  rw [el]
  exact ⟨rfl, leftR R s t G, s, t, rfl, wg_left hw hp, _, rfl, hk⟩
theorem ok_wid {f : Addr} {fd : FuncData} (F : Fun K "widened" "Web.widened" sWid f fd) (A : WbF ca K mg) : FnG P w K mg base CX0 25 f fd ["self", "road"] (spP ca K 2 fWid) := by
  obtain ⟨_, _, WI, OI⟩ := wbf_ini (P := P) (w := w) (base := base) A
  obtain ⟨_, _, D1⟩ := A.rd
  obtain ⟨_, _, D2⟩ := A.who
  obtain ⟨_, _, D3⟩ := A.plc
  obtain ⟨_, _, D4⟩ := A.cst
  obtain ⟨_, _, Dro⟩ := A.ro
  obtain ⟨_, _, Doe⟩ := A.oe
  obtain ⟨_, _, Drts⟩ := A.rts
  obtain ⟨_, _, Dus⟩ := A.us
  obtain ⟨t8, g8⟩ := A.L8
  have B := A.B
  have WC := A.WC
  refine fnP F scWid rfl (fun cdv A' outer s0 H E ds kd gd hr hl hφ => ?_) m_wid
  obtain ⟨R, s, t, r, rfl, hw, h8, hok, he, hk⟩ := hφ
  have hu := hr.units
  have wg := wg_wide hw h8 hok he
  obtain ⟨p1, p2, p3⟩ := rd_pln hok
  refine ab_cons (as_if (at_not (at_tru ?_)))
  refine ax_callP (ok_rd D1.F B A.LC D2 D3 D4) gd (hr.mono (by decide)) rfl D1.g D1.F.kp D1.b ?_ (mono := m_rd)
  refine aa_cons ?_
  walk_at "av"
  refine aa_nil ?_
  refine ⟨rfl, _, rfl, p1, p2, ?_⟩
  rw [p3]
  refine ⟨fun z => (Bool.false_ne_true z).elim, fun _ => ab_nil ?_⟩
  refine ab_cons (as_set 2 scWid.nd rfl (.inl rfl) (Nat.le_of_ble_eq_true rfl) ?_)
  refine ax_len rfl B.len (aa_cons (ax_fld ?_))
  walk_at "av"
  refine ⟨_, _, _, _, rfl, WC.cls, WC.n3, rfl, ?_⟩
  refine aa_nil ?_
  refine lenT ?_
  rw [List.length_map]
  refine ab_cons (as_if (at_eq hu ?_))
  walk_at "av"
  refine ax_gint rfl g8 ?_
  refine eqInt ?_
  have e8 : (((R.length : Nat) : Int) == 8) = false := by
    simp
    omega
  rw [e8]
  refine ⟨_, rfl, fun z => (Bool.false_ne_true z).elim, fun _ => ab_nil ?_⟩
  refine ab_cons (as_set 3 scWid.nd rfl (.inl rfl) (Nat.le_of_ble_eq_true rfl) ?_)
  refine ax_add (ax_fld ?_)
  walk_at "av"
  refine ⟨_, _, _, _, rfl, WC.cls, WC.n3, rfl, ?_⟩
  refine ax_tup (aa_cons ?_)
  walk_at "av"
  refine aa_nil ?_
  refine ⟨Nat.le_of_ble_eq_true rfl, ?_⟩
  refine ⟨by rw [List.length_map, List.length_singleton]; omega, ?_⟩
  have em : R.map rdD ++ [rdD r] = (R ++ [r]).map rdD := by rw [List.map_append]; rfl
  rw [em]
  refine ab_cons (as_if (at_nin ?_))
  walk_at "av"
  refine ax_callP (ok_us Dus.F B Dro Doe Drts) gd (hr.mono (by decide)) rfl Dus.g Dus.F.kp Dus.b ?_ (mono := m_us)
  refine aa_cons (ax_fld ?_)
  walk_at "av"
  refine ⟨_, _, _, _, rfl, WC.cls, WC.n1, rfl, ?_⟩
  refine aa_cons (ax_fld ?_)
  walk_at "av"
  refine ⟨_, _, _, _, rfl, WC.cls, WC.n2, rfl, ?_⟩
  refine aa_cons ?_
  walk_at "av"
  refine aa_nil ?_
  refine ⟨rfl, R ++ [r], s, t, rfl, wg.few, ?_⟩
  refine ⟨(R.length : Int), (usedW (R ++ [r]) s t).map fun i : Nat => (i : Int), rfl, .inl (by unfold natD; rw [List.map_map]; rfl), ?_⟩
  rw [any_memN, usedW_all wg.vd wg.few, decide_eq_true (List.mem_range.mpr (by rw [List.length_append, List.length_singleton]; omega))]
  refine ⟨_, rfl, fun z => (Bool.false_ne_true z).elim, fun _ => ab_nil ?_⟩
  refine ab_one (as_ret ?_)
  refine ax_new (c := "Web") WI.mkw OI gd hr rfl WC.g WI.b rfl ?_ (mono := m_ini)
  refine aa_cons (ax_fld ?_)
  walk_at "av"
  refine ⟨_, _, _, _, rfl, WC.cls, WC.n1, rfl, ?_⟩
  refine aa_cons (ax_fld ?_)
  walk_at "av"
  refine ⟨_, _, _, _, rfl, WC.cls, WC.n2, rfl, ?_⟩
  refine aa_cons ?_
  walk_at "av"
  refine aa_nil ?_
  exact ⟨rfl, R ++ [r], s, t, rfl, wg, _, rfl, hk⟩
end
end Kw
namespace Kw
abbrev sLef : Stmt := topS 45
theorem scLef : FnScope ["ends_here", "streets", "gone", "runs_here", "run", "k"] ["ends_here", "streets", "gone"] (defScope sLef) := ⟨rfl, rfl, rfl, by decide +kernel, rfl, by decide +kernel, by decide +kernel⟩
def fLef : Ph := fun ds k kx => ∃ R s t G, ds = [.tup [sgn s, sgn t], .tup (R.map rdD), wayD G] ∧ R.length ≤ 8 ∧ s ≠ t ∧ k (.tup ((leftR R s t G).map rdD))
theorem m_lef : ∀ ds k1 k2 x1 x2, fLef ds k1 x1 → (∀ d, k1 d → k2 d) → (∀ c ks es, x1 c ks es → x2 c ks es) → fLef ds k2 x2 := by
  rintro ds k1 k2 x1 x2 ⟨R, s, t, G, h1, h2, h4, h3⟩ h _
  exact ⟨R, s, t, G, h1, h2, h4, h _ h3⟩
theorem ints_ly (l : List Nat) : Ly 1 (wayD l) := ly_tup fun d hd => by
  obtain ⟨i, _, rfl⟩ := List.mem_map.mp hd
  exact ly_int _
theorem ways_ly (l : List (List Nat)) : Ly 2 (.lst (l.map wayD)) := ly_lst fun d hd => by
  obtain ⟨i, _, rfl⟩ := List.mem_map.mp hd
  exact ints_ly i
theorem intsL_ly (l : List Nat) : Ly 1 (.lst (l.map fun i : Nat => Da.int (i : Int))) := ly_lst fun d hd => by
  obtain ⟨i, _, rfl⟩ := List.mem_map.mp hd
  exact ly_int _
theorem in_none {w G : List Nat} : ((w.filter fun k => decide (k ∈ G)).map fun i : Nat => Da.int (i : Int)).isEmpty = w.all (outB G) := by
  induction w with
  | nil => rfl
  | cons a w ih =>
    by_cases h : a ∈ G
    · rw [List.filter_cons_of_pos (by simpa using h), List.all_cons]
      have : outB G a = false := by unfold outB; rw [decide_eq_true h]; rfl
      rw [this]
      rfl
    · rw [List.filter_cons_of_neg (by simpa using h), List.all_cons, ih]
      have : outB G a = true := by unfold outB; rw [decide_eq_false h]; rfl
      rw [this, Bool.true_and]
theorem some_on {W : List (List Nat)} {k : Nat} : (!((W.filter fun w => decide (k ∈ w)).map wayD).isEmpty) = W.any fun w => w.contains k := by
  induction W with
  | nil => rfl
  | cons a W ih =>
    by_cases h : k ∈ a
    · rw [List.filter_cons_of_pos (by simpa using h), List.any_cons]
      have : a.contains k = true := by simpa using h
      rw [this]
      rfl
    · rw [List.filter_cons_of_neg (by simpa using h), List.any_cons, ih]
      have : a.contains k = false := by simpa using h
      rw [this, Bool.false_or]
theorem filt_one {α : Type} {p : α → Bool} {l : List α} {n : Nat} {x : α} (h : l[n]? = some x) : (l.take (n + 1)).filter p = (l.take n).filter p ++ (if p x = true then [x] else []) := by
  rw [List.take_succ, h, List.filter_append]
  by_cases q : p x = true
  · rw [if_pos q]
    simp [q]
  · rw [if_neg q]
    simp [q]
theorem blkL1 : BlkOk ["ends_here", "streets", "gone", "runs_here", "run", "k"] (defScope sLef) (compSx [("run", .local), ("gone", .free)]) [("run", 4)] := blkOk_by (by decide +kernel)
theorem blkL1i : BlkOk ["ends_here", "streets", "gone", "runs_here", "run", "k"] (relS (compSx [("run", .local), ("gone", .free)]) (defScope sLef)) (compSx [("k", .local), ("gone", .free)]) [("k", 5)] := blkOk_by (by decide +kernel)
theorem blkL2 : BlkOk ["ends_here", "streets", "gone", "runs_here", "run", "k"] (defScope sLef) (compSx [("k", .cell), ("runs_here", .free), ("streets", .free)]) [("k", 5)] := blkOk_by (by decide +kernel)
theorem blkL2i : BlkOk ["ends_here", "streets", "gone", "runs_here", "run", "k"] (relS (compSx [("k", .cell), ("runs_here", .free), ("streets", .free)]) (defScope sLef)) (compSx [("run", .local), ("k", .free)]) [("run", 4)] := blkOk_by (by decide +kernel)
section
variable {ca : Str → Addr} {P : Program} {w : World} {K : PySem.W.Frag} {mg : Str → Option Value} {base : Heap}
theorem ok_lef {f f1 : Addr} {fd fd1 : FuncData} (F : Fun K "_law_left" "_law_left" sLef f fd) (B : Tb mg) (D1 : Dd K mg "_law_runs" sRuns ["ends_here", "streets"] f1 fd1) (O1 : FnG P w K mg base CX0 2 f1 fd1 ["ends_here", "streets"] (spP ca K 2 fRuns)) : FnG P w K mg base CX0 3 f fd ["ends_here", "streets", "gone"] (spP ca K 3 fLef) := by
  refine fnP F scLef rfl (fun cdv A outer s0 H E ds kd gd hr hl hφ => ?_) m_lef
  obtain ⟨R, s, t, G, rfl, h8, hst, hk⟩ := hφ
  have hu := hr.units
  refine ab_cons (as_set 3 scLef.nd rfl (.inr rfl) (Nat.le_of_ble_eq_true rfl) ?_)
  refine ax_al (al_lcL (own := [("run", 4)]) 4 rfl scLef.nd blkL1 (by decide) (Nat.le_of_ble_eq_true rfl) ?_ (fun _ _ _ _ _ => pg_name (i := 4) scLef.nd rfl (Or.inl rfl)) ?_)
  · rintro j hj v ev
    obtain rfl : j = 4 := by simpa using hj
    cases ev
  refine ax_callP O1 gd (hr.mono (by decide)) rfl D1.g D1.F.kp D1.b ?_ (mono := m_runs)
  refine aa_cons ?_
  walk_at "av"
  refine aa_cons ?_
  walk_at "av"
  refine aa_nil ?_
  refine ⟨rfl, R, s, t, rfl, h8, hst, ?_⟩
  refine ⟨_, rfl, fun n acc c1 => c1 = [] ∧ acc = (((allW R s t).take n).filter fun w => w.all (outB G)).map wayD, ⟨rfl, rfl⟩, ?_, ?_⟩
  · rintro n d acc _ hd ⟨rfl, rfl⟩
    rw [List.getElem?_map] at hd
    obtain ⟨v, hv, ed⟩ := Option.map_eq_some_iff.mp hd
    subst ed
    have few : ((((allW R s t).take n).filter fun w => w.all (outB G)).map wayD).length < 16000000 := by
      rw [List.length_map]
      refine Nat.lt_of_le_of_lt (List.length_filter_le _ _) ?_
      rw [List.length_take]
      exact Nat.lt_of_le_of_lt (Nat.min_le_right _ _) (Nat.lt_of_le_of_lt (rts_8 h8 : (allW R s t).length ≤ 109601) (by decide))
    have sn := filt_one (p := fun w : List Nat => w.all (outB G)) hv
    have h16 := (allW_ok (List.mem_of_getElem? hv)).1
    intro s' H' Cc cl fp
    refine at_eq hu ?_
    refine ax_al (al_lcT (own := [("k", 5)]) 5 rfl scLef.nd blkL1i (by decide) (Nat.le_of_ble_eq_true rfl) ?_ (fun _ _ _ _ _ => pg_name (i := 5) scLef.nd rfl (Or.inl rfl)) ?_)
    · rintro j hj v ev
      obtain rfl : j = 5 := by simpa using hj
      cases ev
    walk_at "av"
    refine ⟨_, rfl, fun m acc c1 => c1 = [] ∧ acc = ((v.take m).filter fun k => decide (k ∈ G)).map fun i : Nat => Da.int (i : Int), ⟨rfl, rfl⟩, ?_, ?_⟩
    · rintro m d acc _ hd ⟨rfl, rfl⟩
      rw [List.getElem?_map] at hd
      obtain ⟨i, hi, ed⟩ := Option.map_eq_some_iff.mp hd
      subst ed
      have sn2 := filt_one (p := fun k : Nat => decide (k ∈ G)) hi
      have few2 : (((v.take m).filter fun k => decide (k ∈ G)).map fun i : Nat => Da.int (i : Int)).length < 16000000 := by
        rw [List.length_map]
        refine Nat.lt_of_le_of_lt (List.length_filter_le _ _) ?_
        rw [List.length_take]
        omega
      intro s' H' Cc cl fp
      refine at_in ?_
      walk_at "av"
      walk_at "av"
      refine ⟨(i : Int), G.map fun i : Nat => (i : Int), rfl, .inr (.inl (by show AV.im (wayD G) = _; rw [way_ints]; rfl)), ?_⟩
      rw [any_memN]
      refine ⟨_, rfl, fun h1 => ?_, fun h1 => ?_⟩
      · intro s' H' Cc cl fp
        walk_at "av"
        refine ⟨_, rfl, few2, rfl, ?_⟩
        rw [sn2, if_pos h1, List.map_append]
        rfl
      · refine ⟨rfl, ?_⟩
        rw [sn2, if_neg (by rw [h1]; exact Bool.false_ne_true), List.append_nil]
    rintro acc _ ⟨rfl, rfl⟩
    rw [List.length_map, List.take_length]
    refine ax_lst (aa_nil ?_)
    refine ⟨Nat.zero_le _, ?_⟩
    refine eq_nilL (intsL_ly _) (by decide) ?_
    rw [in_none]
    refine ⟨_, rfl, fun h1 => ?_, fun h1 => ?_⟩
    · intro s' H' Cc cl fp
      walk_at "av"
      refine ⟨_, rfl, few, rfl, ?_⟩
      have h1' : v.all (outB G) = true := h1
      rw [sn, if_pos h1', List.map_append]
      rfl
    · refine ⟨rfl, ?_⟩
      have h1' : v.all (outB G) = false := h1
      rw [sn, if_neg (by rw [h1']; exact Bool.false_ne_true), List.append_nil]
  rintro acc _ ⟨rfl, rfl⟩
  rw [List.length_map, List.take_length]
  refine ab_one (as_ret (ax_tof rfl B.tup (aa_cons ?_)))
  refine ax_al (al_lcR (own := [("k", 5)]) 5 rfl scLef.nd rfl B.rng blkL2 (by decide) (Nat.le_of_ble_eq_true rfl) ?_ (fun _ _ _ _ _ => pg_name (i := 5) scLef.nd rfl (Or.inr rfl)) ?_)
  · rintro j hj v ev
    obtain rfl : j = 5 := by simpa using hj
    cases ev
  refine ax_len rfl B.len (aa_cons ?_)
  walk_at "av"
  refine aa_nil ?_
  refine lenT ?_
  rw [List.length_map]
  refine ⟨_, rfl, by omega, by omega, fun n acc c1 => c1 = [] ∧ acc = (((List.range n).filter (lefB (outB G) R s t)).filterMap fun i => R[i]?).map rdD, ⟨rfl, rfl⟩, ?_, ?_⟩
  · rintro n acc _ hn ⟨rfl, rfl⟩
    have nl : n < R.length := by omega
    obtain ⟨r, er⟩ : ∃ r, R[n]? = some r := ⟨_, List.getElem?_eq_getElem nl⟩
    have erd : (R.map rdD)[n]? = some (rdD r) := by rw [List.getElem?_map, er]; rfl
    have sn := keep_snoc (p := lefB (outB G) R s t) er
    have few : ((((List.range n).filter (lefB (outB G) R s t)).filterMap fun i => R[i]?).map rdD).length < 16000000 := by
      rw [List.length_map]
      refine Nat.lt_of_le_of_lt (List.length_filterMap_le _ _) ?_
      refine Nat.lt_of_le_of_lt (List.length_filter_le _ _) ?_
      rw [List.length_range]
      omega
    intro s' H' Cc cl fp
    refine at_ne hu ?_
    refine ax_al (al_lcL (own := [("run", 4)]) 4 rfl scLef.nd blkL2i (by decide) (Nat.le_of_ble_eq_true rfl) ?_ (fun _ _ _ _ _ => pg_name (i := 4) scLef.nd rfl (Or.inl rfl)) ?_)
    · rintro j hj v ev
      obtain rfl : j = 4 := by simpa using hj
      cases ev
    walk_at "av"
    refine ⟨_, rfl, fun m acc c1 => c1 = [] ∧ acc = ((((allW R s t).filter fun w => w.all (outB G)).take m).filter fun w => decide (n ∈ w)).map wayD, ⟨rfl, rfl⟩, ?_, ?_⟩
    · rintro m d acc _ hd ⟨rfl, rfl⟩
      rw [List.getElem?_map] at hd
      obtain ⟨v, hv, ed⟩ := Option.map_eq_some_iff.mp hd
      subst ed
      have sn2 := filt_one (p := fun w : List Nat => decide (n ∈ w)) hv
      have few2 : (((((allW R s t).filter fun w => w.all (outB G)).take m).filter fun w => decide (n ∈ w)).map wayD).length < 16000000 := by
        rw [List.length_map]
        refine Nat.lt_of_le_of_lt (List.length_filter_le _ _) ?_
        rw [List.length_take]
        refine Nat.lt_of_le_of_lt (Nat.min_le_right _ _) ?_
        exact Nat.lt_of_le_of_lt (List.length_filter_le _ _) (Nat.lt_of_le_of_lt (rts_8 h8 : (allW R s t).length ≤ 109601) (by decide))
      intro s' H' Cc cl fp
      refine at_in ?_
      walk_at "av"
      walk_at "av"
      refine ⟨(n : Int), v.map fun i : Nat => (i : Int), rfl, .inr (.inl (by show AV.im (wayD v) = _; rw [way_ints]; rfl)), ?_⟩
      rw [any_memN]
      refine ⟨_, rfl, fun h1 => ?_, fun h1 => ?_⟩
      · intro s' H' Cc cl fp
        walk_at "av"
        refine ⟨_, rfl, few2, rfl, ?_⟩
        rw [sn2, if_pos h1, List.map_append]
        rfl
      · refine ⟨rfl, ?_⟩
        rw [sn2, if_neg (by rw [h1]; exact Bool.false_ne_true), List.append_nil]
    rintro acc _ ⟨rfl, rfl⟩
    rw [List.length_map, List.take_length]
    refine ax_lst (aa_nil ?_)
    refine ⟨Nat.zero_le _, ?_⟩
    refine eq_nilL (ways_ly _) (by decide) ?_
    rw [some_on]
    refine ⟨_, rfl, fun h1 => ?_, fun h1 => ?_⟩
    · intro s' H' Cc cl fp
      refine ax_ix ?_
      walk_at "av"
      walk_at "av"
      refine tIx (atI_of rfl erd) ?_
      refine ⟨_, rfl, few, rfl, ?_⟩
      have h1' : lefB (outB G) R s t n = true := h1
      rw [sn, if_pos h1', List.map_append]
      rfl
    · refine ⟨rfl, ?_⟩
      have h1' : lefB (outB G) R s t n = false := h1
      rw [sn, if_neg (by rw [h1']; exact Bool.false_ne_true), List.append_nil]
  rintro acc _ ⟨rfl, rfl⟩
  refine aa_nil ?_
  have eR : ((R.length : Int)).toNat = R.length := by omega
  rw [eR]
  exact ⟨_, _, rfl, rfl, _, .inl rfl, _, rfl, hk⟩
end
end Kw
namespace Kw
abbrev sRight : Stmt := topS 46
theorem scRight : FnScope ["jar", "turn", "ends_here", "streets", "mine", "k", "low", "high", "turned", "due", "again", "gone", "told", "pair_here", "fresh"] ["jar"] (defScope sRight) := ⟨rfl, rfl, rfl, by decide +kernel, rfl, by decide +kernel, by decide +kernel⟩
theorem blkGo : BlkOk ["jar", "turn", "ends_here", "streets", "mine", "k", "low", "high", "turned", "due", "again", "gone", "told", "pair_here", "fresh"] (defScope sRight) (compSx [("k", .local), ("_law_dip", .globalImplicit), ("jar", .free)]) [("k", 5)] := blkOk_by (by decide +kernel)
def fRight : PhJ := fun js ds k kx => ∃ a b c : Int, js = [.int a, .int b, .int c] ∧ ds = [] ∧ ∀ a' b' c' : Int, k (.bl true) [.int a', .int b', .int c']
theorem m_right : ∀ js ds k1 k2 x1 x2, fRight js ds k1 x1 → (∀ d js', k1 d js' → k2 d js') → (∀ c ks es js', x1 c ks es js' → x2 c ks es js') → fRight js ds k2 x2 := by
  rintro js ds k1 k2 x1 x2 ⟨a, b, c, h1, h2, h5⟩ h _
  exact ⟨a, b, c, h1, h2, fun a' b' c' => h _ _ (h5 a' b' c')⟩
/-- what a call of one method needs -/
structure CalM (ca : Str → Addr) (P : Program) (w : World) (K : PySem.W.Frag) (mg : Str → Option Value) (base : Heap) (nm ql : Str) (st : Stmt) (ps ks : List Str) (ix : List Nat) (j n : Nat) (φ : Ph) : Prop where
  ex : ∃ f fd, WebQ K (ca "Web") nm ql st ps f fd ∧ KWs fd ps 0 ks ix ∧ FnG P w K mg base CX0 j f fd ps (spP ca K n φ)
structure R5 (ca : Str → Addr) (P : Program) (w : World) (K : PySem.W.Frag) (mg : Str → Option Value) (base : Heap) : Prop where
  B : Tb mg
  B2 : Tb2 mg
  WC : WebC K mg (ca "Web")
  dip : ∃ f fd, Dd K mg "_law_dip" sDip ["jar", "wide"] f fd
  prc : ∃ f fd, Dd K mg "_law_price" sPrc ["jar"] f fd ∧ FnG P w K mg base CX0 3 f fd ["jar"] (spJ ca K 0 fPrc)
  any : ∃ f fd, Dd K mg "_law_any_web" sAny ["jar"] f fd ∧ FnG P w K mg base CX0 6 f fd ["jar"] (spJ ca K 0 fAny)
  ini : ∃ f fd, WebI K (ca "Web") f fd ∧ FnG P w K mg base CX0 23 f fd ["self", "origin", "goal", "roads"] (spIni ca K "Web" 3 webKs fIni)
  lef : ∃ f fd, Dd K mg "_law_left" sLef ["ends_here", "streets", "gone"] f fd ∧ FnG P w K mg base CX0 3 f fd ["ends_here", "streets", "gone"] (spP ca K 3 fLef)
  org : ∃ f fd, WebP K (ca "Web") "origin" "Web.origin" sOrg f fd
  goa : ∃ f fd, WebP K (ca "Web") "goal" "Web.goal" sGoa f fd
  ros : ∃ f fd, WebP K (ca "Web") "roads" "Web.roads" sRos f fd
  cos : CalM ca P w K mg base "costing" "Web.costing" sCos ["self", "index", "base", "rise"] ["rise", "base", "index"] [2, 1, 0] 25 4 fCos
  clo : CalM ca P w K mg base "closed" "Web.closed" sClo ["self", "indexes"] ["indexes"] [0] 25 2 fClo
  wid : CalM ca P w K mg base "widened" "Web.widened" sWid ["self", "road"] ["road"] [0] 25 2 fWid
  eqs : ∃ f fd, EqC K (ca "Web") f ∧ Fun K "__eq__" "Web.__eq__" sEq f fd ∧ Binds K fd ["self", "other"] []
theorem left_nil {R : List Rd} {s t : Nat} (hw : Wgood R s t) : leftR R s t [] = R := by
  have all : ∀ w : List Nat, w.all (outB []) = true := fun w => by
    rw [List.all_eq_true]
    intro x _
    rfl
  have h : ∀ i, i < R.length → lefB (outB []) R s t i = true := fun i hi => by
    obtain ⟨w, hw2, hm⟩ := used_all hw.vd hw.few i hi
    unfold lefB
    rw [List.any_eq_true]
    exact ⟨w, List.mem_filter.mpr ⟨hw2, all w⟩, by simpa using hm⟩
  have e1 : keepI (lefB (outB []) R s t) R = List.range R.length := List.filter_eq_self.mpr fun i hi => h i (List.mem_range.mp hi)
  apply List.ext_getElem?
  intro j
  unfold leftR
  rw [keepR_at.2, e1]
  by_cases hj : j < R.length
  · rw [List.getElem?_range hj]
    rfl
  · rw [List.getElem?_eq_none (by rw [List.length_range]; omega), List.getElem?_eq_none (by omega)]
    rfl
theorem lot_snoc {n : Nat} {p : Nat → Bool} {q : Bool} (L : List Nat) (hL : L.Pairwise (· < ·)) (hb : ∀ i ∈ L, i < n) : (L ++ [n]).Pairwise (· < ·) := by
  rw [List.pairwise_append]
  exact ⟨hL, List.pairwise_singleton _ _, fun a ha b hb2 => by rw [List.mem_singleton.mp hb2]; exact hb a ha⟩
theorem left_len {R : List Rd} {s t : Nat} {G : List Nat} : (leftR R s t G).length ≤ R.length := by
  unfold leftR
  rw [keepR_at.1]
  refine Nat.le_trans (List.length_filter_le _ _) ?_
  rw [List.length_range]
  exact Nat.le_refl _
theorem left_sub {R : List Rd} {s t : Nat} {G : List Nat} : ∀ r ∈ leftR R s t G, r ∈ R := fun r hr => by
  obtain ⟨i, _, hi⟩ := List.mem_filterMap.mp hr
  exact List.mem_of_getElem? hi
section
variable {ca : Str → Addr} {P : Program} {w : World} {K : PySem.W.Frag} {mg : Str → Option Value} {base : Heap}
theorem ok_right {f : Addr} {fd : FuncData} (F : Fun K "_law_right" "_law_right" sRight f fd) (L : R5 ca P w K mg base) : FnG P w K mg base CX0 27 f fd ["jar"] (spJ ca K 0 fRight) := by
  obtain ⟨_, _, Dd1⟩ := L.dip
  obtain ⟨_, _, Dp1, Op⟩ := L.prc
  obtain ⟨_, _, Da1, Oa⟩ := L.any
  obtain ⟨_, _, WI, Oi⟩ := L.ini
  obtain ⟨_, _, Dl, Ol⟩ := L.lef
  obtain ⟨_, _, W1⟩ := L.org
  obtain ⟨_, _, W2⟩ := L.goa
  obtain ⟨_, _, W3⟩ := L.ros
  obtain ⟨p1, pr1⟩ := W1.pr
  obtain ⟨p2, pr2⟩ := W2.pr
  obtain ⟨p3, pr3⟩ := W3.pr
  obtain ⟨_, _, Q1, K1, O1⟩ := L.cos.ex
  obtain ⟨_, _, Q2, K2, O2⟩ := L.clo.ex
  obtain ⟨_, _, Q3, K3, O3⟩ := L.wid.ex
  obtain ⟨_, _, EQ, FE, BE⟩ := L.eqs
  have B := L.B
  have B2 := L.B2
  have WC := L.WC
  refine fnJ F scRight rfl (fun cdv A outer s0 H E js ds kd gd hr hl hφ => ?_) m_right
  obtain ⟨a, b, c, rfl, rfl, hk⟩ := hφ
  have hu := hr.units
  have hu2 := hr.un
  refine ab_cons (as_range rfl PassesOwn.never rfl B.rng (pg_name (i := 1) scRight.nd rfl (Or.inl rfl)) tg_name ?_)
  refine ax_int ?_
  refine ⟨2, rfl, by decide, by decide, fun n e cc => ∃ a' b' c' : Int, cc = [some [.int a', .int b', .int c']] ∧ ∃ y1 y2 y3 y4 y5 y6 y7 y8 y9 y10 y11 y12 y13 y14, e = [some (.ow 0), y1, y2, y3, y4, y5, y6, y7, y8, y9, y10, y11, y12, y13, y14], ⟨_, _, _, rfl, _, _, _, _, _, _, _, _, _, _, _, _, _, _, rfl⟩, ?_, ?_⟩
  · rintro n e cc hn ⟨a', b', c', rfl, y1, y2, y3, y4, y5, y6, y7, y8, y9, y10, y11, y12, y13, y14, rfl⟩
    refine ⟨Nat.le_of_ble_eq_true rfl, ?_⟩
    refine ab_cons (as_unp (pg_tup rfl (pgs_cons (pg_name (i := 2) scRight.nd rfl (Or.inl rfl)) (pgs_cons (pg_name (i := 3) scRight.nd rfl (Or.inl rfl)) pgs_nil))) (tg_tup (tgs_cons tg_name (tgs_cons tg_name tgs_nil))) ?_)
    refine ax_callJ Oa gd (hr.mono (by decide)) rfl Da1.g Da1.F.kp Da1.b ?_ (mono := m_any)
    walk_at "go"
    refine ⟨0, _, rfl, rfl, _, rfl, a', b', c', rfl, rfl, fun R s t hw a2 b2 c2 => ?_⟩
    refine ⟨_, rfl, _, rfl, rfl, _, _, rfl, ⟨Nat.le_of_ble_eq_true rfl, _, _, rfl, ⟨Nat.le_of_ble_eq_true rfl, rfl, ?_⟩⟩⟩
    have h8 := hw.few
    have h0 := hw.pos
    refine ab_cons (as_set 4 scRight.nd rfl (.inl rfl) (Nat.le_of_ble_eq_true rfl) ?_)
    refine ax_new (c := "Web") WI.mkw Oi gd (hr.mono (by decide)) rfl WC.g WI.b rfl ?_ (mono := m_ini)
    refine aa_cons (ax_ix ?_)
    walk_at "av"
    refine ax_int ?_
    refine tIx rfl ?_
    refine aa_cons (ax_ix ?_)
    walk_at "av"
    refine ax_int ?_
    refine tIx rfl ?_
    refine aa_cons ?_
    walk_at "av"
    refine aa_nil ?_
    refine ⟨rfl, R, s, t, rfl, hw, ?_⟩
    -- other costs
    refine ab_cons (as_range rfl PassesOwn.never rfl B.rng (pg_name (i := 5) scRight.nd rfl (Or.inl rfl)) tg_name ?_)
    refine ax_len rfl B.len (aa_cons ?_)
    walk_at "av"
    refine aa_nil ?_
    refine lenT ?_
    rw [List.length_map]
    refine ⟨_, rfl, by omega, by omega, fun j e cc => ∃ a' b' c' : Int, cc = [some [.int a', .int b', .int c']] ∧ ∃ x5 x6 x7 x8 x9 x10 x11 x12 x13 x14, e = [some (.ow 0), some (.im (.int (n : Int))), some (.im (.tup [sgn s, sgn t])), some (.im (.tup (R.map rdD))), some (.im (webO R s t)), x5, x6, x7, x8, x9, x10, x11, x12, x13, x14], ⟨_, _, _, rfl, _, _, _, _, _, _, _, _, _, _, rfl⟩, ?_, ?_⟩
    · rintro j e cc hj ⟨a3, b3, c3, rfl, x5, x6, x7, x8, x9, x10, x11, x12, x13, x14, rfl⟩
      have hj' : j < R.length := by omega
      obtain ⟨r, er⟩ : ∃ r, R[j]? = some r := ⟨_, List.getElem?_eq_getElem hj'⟩
      have erd : (R.map rdD)[j]? = some (rdD r) := by rw [List.getElem?_map, er]; rfl
      refine ⟨Nat.le_of_ble_eq_true rfl, ?_⟩
      refine ab_cons (as_unp (pg_tup rfl (pgs_cons (pg_name (i := 6) scRight.nd rfl (Or.inl rfl)) (pgs_cons (pg_name (i := 7) scRight.nd rfl (Or.inl rfl)) pgs_nil))) (tg_tup (tgs_cons tg_name (tgs_cons tg_name tgs_nil))) ?_)
      refine ax_callJ Op gd (hr.mono (by decide)) rfl Dp1.g Dp1.F.kp Dp1.b ?_ (mono := m_prc)
      walk_at "go"
      refine ⟨0, _, rfl, rfl, _, rfl, a3, b3, c3, rfl, rfl, fun u v a4 b4 c4 u0 u1 v0 v1 => ?_⟩
      refine ⟨_, rfl, _, rfl, rfl, _, _, rfl, ⟨Nat.le_of_ble_eq_true rfl, _, _, rfl, ⟨Nat.le_of_ble_eq_true rfl, rfl, ?_⟩⟩⟩
      refine ab_cons (as_set 8 scRight.nd rfl (.inl rfl) (Nat.le_of_ble_eq_true rfl) ?_)
      refine ax_add (ax_takeT (ax_ix ?_))
      walk_at "av"
      walk_at "av"
      refine tIx (atI_of rfl erd) ?_
      refine ax_int ?_
      refine ⟨2, _, rfl, rfl, Nat.le_of_ble_eq_true rfl, ?_⟩
      refine ax_tup (aa_cons ?_)
      walk_at "av"
      refine aa_cons ?_
      walk_at "av"
      refine aa_nil ?_
      refine ⟨Nat.le_of_ble_eq_true rfl, ?_⟩
      refine ⟨Nat.le_of_ble_eq_true rfl, ?_⟩
      refine ab_cons (as_set 9 scRight.nd rfl (.inl rfl) (Nat.le_of_ble_eq_true rfl) ?_)
      refine ax_add (ax_add (ax_takeA ?_))
      walk_at "av"
      walk_at "av"
      refine ⟨j, _, rfl, rfl, ?_⟩
      refine ax_tup (aa_cons ?_)
      walk_at "av"
      refine aa_nil ?_
      refine ⟨Nat.le_of_ble_eq_true rfl, ?_⟩
      refine ⟨by rw [List.length_take, List.length_map, List.length_singleton]; omega, ?_⟩
      refine ax_dropA ?_
      walk_at "av"
      refine ax_add ?_
      walk_at "av"
      refine ax_int ?_
      refine iAdd ?_
      refine ⟨j + 1, _, rfl, rfl, ?_⟩
      refine ⟨by rw [List.length_append, List.length_take, List.length_drop, List.length_map, List.length_singleton]; omega, ?_⟩
      have e5 : (R.map rdD).take j ++ [Da.tup ([sgn r.lo, sgn r.hi] ++ [Da.int u, Da.int v])] ++ (R.map rdD).drop (j + 1) = (setC R j r u v).map rdD := by
        unfold setC
        rw [List.map_append, List.map_append, List.map_take, List.map_drop]
        rfl
      have wg := wg_set hw er ⟨u0, u1⟩ ⟨v0, v1⟩
      refine ab_one (as_if (at_ne hu ?_))
      refine ax_lst (aa_cons ?_)
      refine ax_prop WC.cls pr3 (ok_ros W3 WC) gd (hr.mono (by decide)) W3.b ?_ (mono := m_ros)
      refine ax_meth (c := "Web") WC.cls Q1.mt O1 gd (hr.mono (by decide)) Q1.b ?_ (mono := m_cos)
      walk_at "av"
      refine ⟨_, _, rfl, by decide, ?_⟩
      refine aa_cons ?_
      walk_at "av"
      refine aa_cons ?_
      walk_at "av"
      refine aa_cons ?_
      walk_at "av"
      refine aa_nil ?_
      refine ⟨rfl, R, s, t, r, j, u, v, rfl, hw, er, ⟨u0, u1⟩, ⟨v0, v1⟩, ?_⟩
      refine ⟨_, _, rfl, _, s, t, rfl, ?_⟩
      refine aa_cons ?_
      refine ax_prop WC.cls pr3 (ok_ros W3 WC) gd (hr.mono (by decide)) W3.b ?_ (mono := m_ros)
      refine ax_methK (c := "Web") WC.cls Q1.mt O1 gd (hr.mono (by decide)) K1 ?_ (mono := m_cos)
      walk_at "av"
      refine ⟨_, _, rfl, by decide, ?_⟩
      refine ak_cons ?_
      walk_at "av"
      refine ak_cons ?_
      walk_at "av"
      refine ak_cons ?_
      walk_at "av"
      refine ak_nil ?_
      refine ⟨rfl, rfl, R, s, t, r, j, u, v, rfl, hw, er, ⟨u0, u1⟩, ⟨v0, v1⟩, ?_⟩
      refine ⟨_, _, rfl, _, s, t, rfl, ?_⟩
      refine aa_nil ?_
      refine ⟨Nat.le_of_ble_eq_true rfl, ?_⟩
      refine ax_lst (aa_cons ?_)
      walk_at "av"
      refine aa_cons ?_
      walk_at "av"
      refine aa_nil ?_
      refine ⟨Nat.le_of_ble_eq_true rfl, ?_⟩
      have ly : Ly 3 (.lst [.tup ((setC R j r u v).map rdD), .tup ((setC R j r u v).map rdD)]) := ly_lst fun d hd => by
        simp only [List.mem_cons, List.not_mem_nil, or_false, or_self] at hd
        rw [hd]
        exact ly_rds wg.ok
      refine eq_sm ly (by decide) rfl (by rw [← e5]; rfl) ?_
      exact ⟨_, rfl, fun z => (by cases z), fun _ => ab_nil ⟨_, _, _, rfl, _, _, _, _, _, _, _, _, _, _, rfl⟩⟩
    rintro e cc ⟨a3, b3, c3, rfl, x5, x6, x7, x8, x9, x10, x11, x12, x13, x14, rfl⟩
    -- lots closed
    refine ab_cons (as_range rfl PassesOwn.never rfl B.rng (pg_name (i := 10) scRight.nd rfl (Or.inl rfl)) tg_name ?_)
    refine ax_int ?_
    refine ⟨5, rfl, by decide, by decide, fun m e cc => ∃ a' b' c' : Int, cc = [some [.int a', .int b', .int c']] ∧ ∃ x5 x6 x7 x8 x9 x10 x11 x12 x13 x14, e = [some (.ow 0), some (.im (.int (n : Int))), some (.im (.tup [sgn s, sgn t])), some (.im (.tup (R.map rdD))), some (.im (webO R s t)), x5, x6, x7, x8, x9, x10, x11, x12, x13, x14], ⟨_, _, _, rfl, _, _, _, _, _, _, _, _, _, _, rfl⟩, ?_, ?_⟩
    · rintro m e cc hm ⟨a4, b4, c4, rfl, x5, x6, x7, x8, x9, x10, x11, x12, x13, x14, rfl⟩
      refine ⟨Nat.le_of_ble_eq_true rfl, ?_⟩
      refine ab_fgt 5 ?_
      refine ab_cons (as_set 11 scRight.nd rfl (.inl rfl) (Nat.le_of_ble_eq_true rfl) ?_)
      refine ax_tof rfl B.tup (aa_cons ?_)
      refine ax_al (al_lcR (own := [("k", 5)]) 5 rfl scRight.nd rfl B.rng blkGo (by decide) (Nat.le_of_ble_eq_true rfl) ?_ (fun _ _ _ _ _ => pg_name (i := 5) scRight.nd rfl (Or.inl rfl)) ?_)
      · rintro j hj v ev
        obtain rfl : j = 5 := by simpa using hj
        cases ev
      refine ax_len rfl B.len (aa_cons ?_)
      walk_at "av"
      refine aa_nil ?_
      refine lenT ?_
      rw [List.length_map]
      refine ⟨_, rfl, by omega, by omega, fun i acc c1 => ∃ a' b' c' : Int, c1 = [some [.int a', .int b', .int c']] ∧ ∃ G : List Nat, acc = (G.map fun i : Nat => Da.int (i : Int)) ∧ G.Pairwise (· < ·) ∧ (∀ k ∈ G, k < i) ∧ G.length ≤ i, ⟨_, _, _, rfl, [], rfl, List.Pairwise.nil, (fun _ h => nomatch h), Nat.le_refl _⟩, ?_, ?_⟩
      · rintro i acc _ hi ⟨a5, b5, c5, rfl, G, rfl, g1, g2, g3⟩
        intro s' H' Cc cl fp
        refine at_eq hu ?_
        refine ax_callJ (ok_dip Dd1.F B) gd (hr.mono (by decide)) rfl Dd1.g Dd1.F.kp Dd1.b ?_ (mono := m_dip)
        walk_at "go"
        refine ⟨0, _, rfl, ?_⟩
        walk_at "go"
        refine ⟨rfl, _, rfl, a5, b5, c5, 4, rfl, rfl, by decide, by decide, fun d a6 b6 c6 d0 d1 => ?_⟩
        refine ax_int ?_
        refine eqInt ?_
        refine ⟨_, rfl, fun h1 => ?_, fun h1 => ?_⟩
        · intro s' H' Cc cl fp
          walk_at "av"
          refine ⟨_, rfl, by rw [List.length_map]; omega, _, _, _, rfl, G ++ [i], ?_, lot_snoc (p := fun _ => true) (q := true) G g1 g2, ?_, by rw [List.length_append, List.length_singleton]; omega⟩
          · rw [List.map_append]
            rfl
          · intro k hk2
            rcases List.mem_append.mp hk2 with h | h
            · have := g2 k h
              omega
            · rw [List.mem_singleton.mp h]
              omega
        · exact ⟨_, _, _, rfl, G, rfl, g1, fun k h => by have := g2 k h; omega, by omega⟩
      rintro acc _ ⟨a5, b5, c5, rfl, G, rfl, g1, g2, g3⟩
      have eR : ((R.length : Int)).toNat = R.length := by omega
      rw [eR] at g2 g3
      have lot : Lot R G := ⟨g1, g2⟩
      refine aa_nil ?_
      refine ⟨_, _, rfl, rfl, _, .inl rfl, ?_⟩
      refine ab_cons (as_set 9 scRight.nd rfl (.inl rfl) (Nat.le_of_ble_eq_true rfl) ?_)
      refine ax_callP Ol gd (hr.mono (by decide)) rfl Dl.g Dl.F.kp Dl.b ?_ (mono := m_lef)
      refine aa_cons ?_
      walk_at "av"
      refine aa_cons ?_
      walk_at "av"
      refine aa_cons ?_
      walk_at "av"
      refine aa_nil ?_
      refine ⟨rfl, R, s, t, G, rfl, h8, hw.ne, ?_⟩
      have lok : ∀ r ∈ leftR R s t G, rdOk r = true := fun r hr => hw.ok r (left_sub r hr)
      refine ab_one (as_if (at_ne hu ?_))
      walk_at "av"
      refine ax_tup (aa_nil ?_)
      refine ⟨Nat.zero_le _, ?_⟩
      refine eq_nilT (ly_rds lok) (by decide) ?_
      refine ⟨_, rfl, fun h1 => ?_, fun h1 => ab_nil ⟨_, _, _, rfl, _, _, _, _, _, _, _, _, _, _, rfl⟩⟩
      have lp : 0 < (leftR R s t G).length := by
        have h1' : (!((leftR R s t G).map rdD).isEmpty) = true := h1
        cases q : leftR R s t G with
        | nil =>
          rw [q] at h1'
          cases h1'
        | cons _ _ => exact Nat.succ_pos _
      refine ab_cons (as_set 12 scRight.nd rfl (.inl rfl) (Nat.le_of_ble_eq_true rfl) ?_)
      refine ax_lst (aa_cons ?_)
      refine ax_prop WC.cls pr3 (ok_ros W3 WC) gd (hr.mono (by decide)) W3.b ?_ (mono := m_ros)
      refine ax_meth (c := "Web") WC.cls Q2.mt O2 gd (hr.mono (by decide)) Q2.b ?_ (mono := m_clo)
      walk_at "av"
      refine ⟨_, _, rfl, by decide, ?_⟩
      refine aa_cons ?_
      walk_at "av"
      refine aa_nil ?_
      refine ⟨rfl, R, s, t, G, rfl, hw, lot, lp, ?_⟩
      refine ⟨_, _, rfl, _, s, t, rfl, ?_⟩
      refine aa_cons ?_
      refine ax_prop WC.cls pr3 (ok_ros W3 WC) gd (hr.mono (by decide)) W3.b ?_ (mono := m_ros)
      refine ax_methK (c := "Web") WC.cls Q2.mt O2 gd (hr.mono (by decide)) K2 ?_ (mono := m_clo)
      walk_at "av"
      refine ⟨_, _, rfl, by decide, ?_⟩
      refine ak_cons ?_
      walk_at "av"
      refine ak_nil ?_
      refine ⟨rfl, rfl, R, s, t, G, rfl, hw, lot, lp, ?_⟩
      refine ⟨_, _, rfl, _, s, t, rfl, ?_⟩
      refine aa_nil ?_
      refine ⟨Nat.le_of_ble_eq_true rfl, ?_⟩
      refine ab_one (as_if (at_ne hu ?_))
      walk_at "av"
      refine ax_lst (aa_cons ?_)
      walk_at "av"
      refine aa_cons ?_
      walk_at "av"
      refine aa_nil ?_
      refine ⟨Nat.le_of_ble_eq_true rfl, ?_⟩
      have ly : Ly 3 (.lst [.tup ((leftR R s t G).map rdD), .tup ((leftR R s t G).map rdD)]) := ly_lst fun d hd => by
        simp only [List.mem_cons, List.not_mem_nil, or_false, or_self] at hd
        rw [hd]
        exact ly_rds lok
      refine eq_sm ly (by decide) rfl rfl ?_
      exact ⟨_, rfl, fun z => (by cases z), fun _ => ab_nil ⟨_, _, _, rfl, _, _, _, _, _, _, _, _, _, _, rfl⟩⟩
    rintro e cc ⟨a4, b4, c4, rfl, x5, x6, x7, x8, x9, x10, x11, x12, x13, x14, rfl⟩
    -- nothing closed
    have ln := left_nil hw
    refine ab_cons (as_if ?_)
    refine at_neO (c := "Web") EQ (ok_eq FE B WC) gd (hr.mono (by decide)) BE rfl (Nat.lt_of_le_of_lt (Nat.add_le_add_left (by decide : 1 ≤ 64) _) hu) ?_ (mono := m_eq)
    refine ax_meth (c := "Web") WC.cls Q2.mt O2 gd (hr.mono (by decide)) Q2.b ?_ (mono := m_clo)
    walk_at "av"
    refine ⟨_, _, rfl, by decide, ?_⟩
    refine aa_cons (ax_tup (aa_nil ?_))
    refine ⟨Nat.zero_le _, ?_⟩
    refine aa_nil ?_
    refine ⟨rfl, R, s, t, [], rfl, hw, ⟨List.Pairwise.nil, fun _ h => nomatch h⟩, by rw [ln]; exact h0, ?_⟩
    rw [ln]
    walk_at "av"
    refine ⟨_, _, _, _, rfl, rfl, R, s, t, rfl, hw, true, rfl, ?_⟩
    refine ⟨_, rfl, fun z => (by cases z), fun _ => ab_nil ?_⟩
    -- a road more
    refine ab_cons (as_set 13 scRight.nd rfl (.inl rfl) (Nat.le_of_ble_eq_true rfl) ?_)
    refine ax_tof rfl B.tup (aa_cons (ax_al (al_soT rfl B.srt (aa_cons ?_))))
    walk_at "av"
    refine aa_nil ?_
    refine ⟨[⟨#[s]⟩, ⟨#[t]⟩], rfl, Nat.le_of_ble_eq_true rfl, fun ys hp hs => ?_⟩
    obtain ⟨p, q, rfl, plt, hpq⟩ := two_sorted hw.ne hp hs
    refine aa_nil ?_
    refine ⟨_, _, rfl, rfl, _, .inl rfl, ?_⟩
    refine ab_cons (as_set 14 scRight.nd rfl (.inl rfl) (Nat.le_of_ble_eq_true rfl) ?_)
    refine ax_add ?_
    walk_at "av"
    refine ax_callJ Op gd (hr.mono (by decide)) rfl Dp1.g Dp1.F.kp Dp1.b ?_ (mono := m_prc)
    walk_at "go"
    refine ⟨0, _, rfl, rfl, _, rfl, a4, b4, c4, rfl, rfl, fun u v a5 b5 c5 u0 u1 v0 v1 => ?_⟩
    refine ⟨Nat.le_of_ble_eq_true rfl, ?_⟩
    have rok : rdOk ⟨p, q, .int u, .int v⟩ = true := by
      have hp' : placeB (sgn p) = true := by
        rcases hpq with ⟨rfl, rfl⟩ | ⟨rfl, rfl⟩
        · exact hw.ps
        · exact hw.pt
      have hq' : placeB (sgn q) = true := by
        rcases hpq with ⟨rfl, rfl⟩ | ⟨rfl, rfl⟩
        · exact hw.pt
        · exact hw.ps
      have hl' : ltD (sgn p) (sgn q) = true := by
        show decide ([p] < [q]) = true
        exact decide_eq_true (List.Lex.rel plt)
      have wx : ∀ z : Int, 0 ≤ z → z ≤ 1000000 → wholeB (.int z) 1000000 = true := fun z z0 z1 => by
        unfold wholeB
        dsimp only
        simp
        exact ⟨z0, z1⟩
      show (placeB (sgn p) && (placeB (sgn q) && (ltD (sgn p) (sgn q) && (wholeB (.int u) 1000000 && wholeB (.int v) 1000000))) && (pln (.int u) && pln (.int v))) = true
      rw [hp', hq', hl', wx u u0 u1, wx v v0 v1]
      rfl
    have lyE : Ly 3 (.lst [sgn s, sgn t, .tup (R.map rdD)]) := ly_lst fun d hd => by
      simp only [List.mem_cons, List.not_mem_nil, or_false] at hd
      rcases hd with rfl | rfl | rfl
      · exact ly_mono (ly_sgn (place_low hw.ps)) (by decide)
      · exact ly_mono (ly_sgn (place_low hw.pt)) (by decide)
      · exact ly_rds hw.ok
    refine ab_cons (as_if (at_lt ?_))
    refine ax_len rfl B.len (aa_cons ?_)
    walk_at "av"
    refine aa_nil ?_
    refine lenT ?_
    rw [List.length_map]
    refine ax_int ?_
    refine iCmp ?_
    refine ⟨_, rfl, fun h1 => ?_, fun h1 => ab_nil ?_⟩
    · have lt8 : R.length < 8 := by
        have h1' : decide ((R.length : Int) < 8) = true := h1
        have := of_decide_eq_true h1'
        omega
      have wg := wg_wide hw lt8 rok hpq
      have em : R.map rdD ++ [rdD ⟨p, q, .int u, .int v⟩] = (R ++ [(⟨p, q, .int u, .int v⟩ : Rd)]).map rdD := by rw [List.map_append]; rfl
      refine ab_cons (as_set 12 scRight.nd rfl (.inl rfl) (Nat.le_of_ble_eq_true rfl) ?_)
      refine ax_lst (aa_cons ?_)
      refine ax_prop WC.cls pr3 (ok_ros W3 WC) gd (hr.mono (by decide)) W3.b ?_ (mono := m_ros)
      refine ax_meth (c := "Web") WC.cls Q3.mt O3 gd (hr.mono (by decide)) Q3.b ?_ (mono := m_wid)
      walk_at "av"
      refine ⟨_, _, rfl, by decide, ?_⟩
      refine aa_cons ?_
      walk_at "av"
      refine aa_nil ?_
      refine ⟨rfl, R, s, t, ⟨p, q, .int u, .int v⟩, rfl, hw, lt8, rok, hpq, ?_⟩
      refine ⟨_, _, rfl, _, s, t, rfl, ?_⟩
      refine aa_cons ?_
      refine ax_prop WC.cls pr3 (ok_ros W3 WC) gd (hr.mono (by decide)) W3.b ?_ (mono := m_ros)
      refine ax_methK (c := "Web") WC.cls Q3.mt O3 gd (hr.mono (by decide)) K3 ?_ (mono := m_wid)
      walk_at "av"
      refine ⟨_, _, rfl, by decide, ?_⟩
      refine ak_cons ?_
      walk_at "av"
      refine ak_nil ?_
      refine ⟨rfl, rfl, R, s, t, ⟨p, q, .int u, .int v⟩, rfl, hw, lt8, rok, hpq, ?_⟩
      refine ⟨_, _, rfl, _, s, t, rfl, ?_⟩
      refine aa_nil ?_
      refine ⟨Nat.le_of_ble_eq_true rfl, ?_⟩
      refine ab_one (as_if (at_ne hu ?_))
      walk_at "av"
      refine ax_mul (ax_lst (aa_cons (ax_add ?_)))
      walk_at "av"
      refine ax_tup (aa_cons ?_)
      walk_at "av"
      refine aa_nil ?_
      refine ⟨Nat.le_of_ble_eq_true rfl, ?_⟩
      refine ⟨by rw [List.length_map, List.length_singleton]; omega, ?_⟩
      refine aa_nil ?_
      refine ⟨Nat.le_of_ble_eq_true rfl, ?_⟩
      refine ax_int ?_
      refine ⟨⟨by decide, by decide, Nat.le_of_ble_eq_true rfl⟩, ?_⟩
      have ly : Ly 3 (.lst [.tup ((R ++ [(⟨p, q, .int u, .int v⟩ : Rd)]).map rdD), .tup ((R ++ [(⟨p, q, .int u, .int v⟩ : Rd)]).map rdD)]) := ly_lst fun d hd => by
        simp only [List.mem_cons, List.not_mem_nil, or_false, or_self] at hd
        rw [hd]
        exact ly_rds wg.ok
      refine eq_sm ly (by decide) rfl (by rw [← em]; rfl) ?_
      refine ⟨_, rfl, fun z => (by cases z), fun _ => ab_nil ?_⟩
      refine ab_one (as_if (at_ne hu ?_))
      refine ax_lst (aa_cons ?_)
      refine ax_prop WC.cls pr1 (ok_org W1 WC) gd (hr.mono (by decide)) W1.b ?_ (mono := m_org)
      walk_at "av"
      refine ⟨_, _, rfl, R, s, t, rfl, ?_⟩
      refine aa_cons ?_
      refine ax_prop WC.cls pr2 (ok_goa W2 WC) gd (hr.mono (by decide)) W2.b ?_ (mono := m_goa)
      walk_at "av"
      refine ⟨_, _, rfl, R, s, t, rfl, ?_⟩
      refine aa_cons ?_
      refine ax_prop WC.cls pr3 (ok_ros W3 WC) gd (hr.mono (by decide)) W3.b ?_ (mono := m_ros)
      walk_at "av"
      refine ⟨_, _, rfl, R, s, t, rfl, ?_⟩
      refine aa_nil ?_
      refine ⟨Nat.le_of_ble_eq_true rfl, ?_⟩
      refine ax_lst (aa_cons (ax_ix ?_))
      walk_at "av"
      refine ax_int ?_
      refine tIx rfl ?_
      refine aa_cons (ax_ix ?_)
      walk_at "av"
      refine ax_int ?_
      refine tIx rfl ?_
      refine aa_cons ?_
      walk_at "av"
      refine aa_nil ?_
      refine ⟨Nat.le_of_ble_eq_true rfl, ?_⟩
      refine eq_sm lyE (by decide) rfl rfl ?_
      exact ⟨_, rfl, fun z => (by cases z), fun _ => ab_nil ⟨_, _, _, rfl, _, _, _, _, _, _, _, _, _, _, _, _, _, _, rfl⟩⟩
    · refine ab_one (as_if (at_ne hu ?_))
      refine ax_lst (aa_cons ?_)
      refine ax_prop WC.cls pr1 (ok_org W1 WC) gd (hr.mono (by decide)) W1.b ?_ (mono := m_org)
      walk_at "av"
      refine ⟨_, _, rfl, R, s, t, rfl, ?_⟩
      refine aa_cons ?_
      refine ax_prop WC.cls pr2 (ok_goa W2 WC) gd (hr.mono (by decide)) W2.b ?_ (mono := m_goa)
      walk_at "av"
      refine ⟨_, _, rfl, R, s, t, rfl, ?_⟩
      refine aa_cons ?_
      refine ax_prop WC.cls pr3 (ok_ros W3 WC) gd (hr.mono (by decide)) W3.b ?_ (mono := m_ros)
      walk_at "av"
      refine ⟨_, _, rfl, R, s, t, rfl, ?_⟩
      refine aa_nil ?_
      refine ⟨Nat.le_of_ble_eq_true rfl, ?_⟩
      refine ax_lst (aa_cons (ax_ix ?_))
      walk_at "av"
      refine ax_int ?_
      refine tIx rfl ?_
      refine aa_cons (ax_ix ?_)
      walk_at "av"
      refine ax_int ?_
      refine tIx rfl ?_
      refine aa_cons ?_
      walk_at "av"
      refine aa_nil ?_
      refine ⟨Nat.le_of_ble_eq_true rfl, ?_⟩
      refine eq_sm lyE (by decide) rfl rfl ?_
      exact ⟨_, rfl, fun z => (by cases z), fun _ => ab_nil ⟨_, _, _, rfl, _, _, _, _, _, _, _, _, _, _, _, _, _, _, rfl⟩⟩
  · rintro e cc ⟨a', b', c', rfl, y1, y2, y3, y4, y5, y6, y7, y8, y9, y10, y11, y12, y13, y14, rfl⟩
    refine ab_one (as_ret (ax_bl ?_))
    exact ⟨_, _, _, rfl, rfl, hk _ _ _⟩
end
end Kw
namespace Kw
abbrev sLaw : Stmt := topS 47
theorem scLaw : FnScope ["script", "k"] ["script"] (defScope sLaw) := ⟨rfl, rfl, rfl, by decide +kernel, rfl, by decide +kernel, by decide +kernel⟩
def fLaw : Ph := fun ds k kx => ∃ ns, ds = [.scr ns] ∧ ns.length ≤ 63 ∧ k (.bl true)
theorem m_law : ∀ ds k1 k2 x1 x2, fLaw ds k1 x1 → (∀ d, k1 d → k2 d) → (∀ c ks es, x1 c ks es → x2 c ks es) → fLaw ds k2 x2 := by
  rintro ds k1 k2 x1 x2 ⟨ns, h1, h2, h3⟩ h _
  exact ⟨ns, h1, h2, h _ h3⟩
section
variable {ca : Str → Addr} {P : Program} {w : World} {K : PySem.W.Frag} {mg : Str → Option Value} {base : Heap}
theorem ok_law {f f0 f1 : Addr} {fd fd0 fd1 : FuncData} (F : Fun K "law" "law" sLaw f fd) (L : R5 ca P w K mg base) (D0 : Dd K mg "_law_jar" sJar ["script", "k"] f0 fd0) (D1 : Dd K mg "_law_right" sRight ["jar"] f1 fd1) : FnG P w K mg base CX0 28 f fd ["script"] (spP ca K 1 fLaw) := by
  have B := L.B
  have B2 := L.B2
  have ml := B.len
  refine fnP F scLaw rfl (fun cdv A outer s H E ds kd gd hr hl hφ => ?_) m_law
  obtain ⟨ns, rfl, hz, hk⟩ := hφ
  have hu := hr.units
  refine ab_cons (as_range rfl PassesOwn.never rfl B.rng (pg_name (i := 1) scLaw.nd rfl (Or.inl rfl)) tg_name ?_)
  refine ax_max2 rfl rfl B2.max (aa_cons (ax_int ?_))
  refine aa_cons ?_
  refine ax_min2 rfl rfl B2.min (aa_cons ?_)
  refine ax_len rfl ml (aa_cons ?_)
  walk_at "av"
  refine aa_nil ?_
  refine lenS ?_
  refine aa_cons (ax_int ?_)
  refine aa_nil ?_
  refine i2 ?_
  refine aa_nil ?_
  refine i2 ?_
  obtain ⟨m, hm, em⟩ : ∃ m : Nat, m ≤ 5 ∧ (m : Int) = (if (if (5 : Int) < (ns.length : Int) then (5 : Int) else (ns.length : Int)) > 2 then (if (5 : Int) < (ns.length : Int) then (5 : Int) else (ns.length : Int)) else 2) := by
    by_cases h1 : (5 : Int) < (ns.length : Int)
    · exact ⟨5, by decide, by rw [if_pos h1, if_pos (by decide)]; rfl⟩
    · rw [if_neg h1]
      by_cases h2 : (ns.length : Int) > 2
      · exact ⟨ns.length, by omega, by rw [if_pos h2]⟩
      · exact ⟨2, by decide, by rw [if_neg h2]; rfl⟩
  rw [← em]
  refine ⟨_, rfl, by omega, by omega, fun n e cc => cc = [] ∧ ∃ y, e = [some (.im (.scr ns)), y], ⟨rfl, _, rfl⟩, ?_, ?_⟩
  · rintro n e cc hn ⟨rfl, y, rfl⟩
    refine ⟨Nat.le_of_ble_eq_true rfl, ?_⟩
    refine ab_one (as_if (at_not (at_tru ?_)))
    refine ax_callJ1 (ok_right D1.F L) gd hr rfl D1.g D1.F.kp D1.b ?_ (mono := m_right)
    refine al_callF (ok_jar D0.F B) gd (hr.mono (by decide)) rfl D0.g D0.F.kp D0.b ?_ (mono := m_jar)
    refine aa_cons ?_
    walk_at "av"
    refine aa_cons ?_
    walk_at "av"
    refine aa_nil ?_
    refine ⟨rfl, ns, n, rfl, by omega, fun a b c => ?_⟩
    refine ⟨a, b, c, rfl, rfl, fun _ _ _ => ?_⟩
    exact ⟨fun z => (Bool.false_ne_true z).elim, fun _ => ab_nil ⟨rfl, _, rfl⟩⟩
  · rintro e cc ⟨rfl, y, rfl⟩
    refine ab_one (as_ret (ax_bl ?_))
    exact ⟨_, rfl, hk⟩
end
end Kw
namespace Kw
open PySem.W
/-- a module's name that is an object -/
def adr (K : Frag) (n : Str) : Addr := match nsIn K mainGlobals n with
  | some (some (.ref a)) => a
  | _ => 0
def blN : List Str := ["type", "int", "str", "tuple", "len", "enumerate", "sorted", "abs", "range", "all", "sum", "set", "repr", "list", "max", "min"]
/-- what the class Web must have -/
def webB (K : Frag) : Bool :=
  plainGet K (adr K "Web") Str.empty && (hasDictIn K (adr K "Web") && (plainOver K (adr K "Web") && (findIn K (.ref (adr K "Web")) "__setattr__" == some (some (.builtin "object.__setattr__")) &&
  (findIn K (.ref (adr K "Web")) "_origin" == some none && (findIn K (.ref (adr K "Web")) "_goal" == some none && (findIn K (.ref (adr K "Web")) "_roads" == some none && (nsIn K mainGlobals "Web" == some (some (.ref (adr K "Web"))) &&
  (makesIn K (adr K "Web") && keepIn K (.ref (adr K "Web"))))))))))
def blB (K : Frag) : Bool := blN.all fun n => nsIn K mainGlobals n == some none
theorem tb_mk {K : Frag} {h : Heap} {mg : Str → Option Value} (X : K.In h) (G : h.Ns mainGlobals mg) (ok : blB K = true) : Tb mg ∧ Tb2 mg := by
  unfold blB at ok
  rw [List.all_eq_true] at ok
  have no : ∀ n ∈ blN, mg n = none := fun n hn => mg_none_of X G (beq_iff_eq.mp (ok n hn))
  refine ⟨?_, ?_⟩ <;> constructor <;> exact no _ (by decide +kernel)
theorem wc_mk {K : Frag} {h : Heap} {mg : Str → Option Value} (X : K.In h) (G : h.Ns mainGlobals mg) (ok : webB K = true) : WebC K mg (adr K "Web") ∧ makesIn K (adr K "Web") = true ∧ keepIn K (.ref (adr K "Web")) = true := by
  unfold webB at ok
  simp only [Bool.and_eq_true, beq_iff_eq] at ok
  obtain ⟨o1, o2, o3, o4, o5, o6, o7, o8, o9, o10⟩ := ok
  exact ⟨⟨mg_of X G o8, ⟨o1, o2, o3, o4⟩, o5, o6, o7⟩, o9, o10⟩
def isI (K : Frag) (n : Str) (i : Int) : Bool := match nsIn K mainGlobals n with
  | some (some (.int j _)) => j == i
  | _ => false
theorem isI_of {K : Frag} {h : Heap} {mg : Str → Option Value} (X : K.In h) (G : h.Ns mainGlobals mg) {n : Str} {i : Int} (e : isI K n i = true) : ∃ t, mg n = some (.int i t) := by
  unfold isI at e
  split at e
  · rename_i j t q
    rw [beq_iff_eq] at e
    subst e
    exact ⟨t, mg_of X G q⟩
  · cases e
section
variable {K : Frag} {h : Heap} {mg : Str → Option Value} {nm : Str} {st : Stmt} {ps : List Str} {C f p : Addr} {oc : Value} {od an : Option Addr} {osl : Array (Option Value)} {kV doc pm cdv ct : Value}
theorem adr_of (a : nsIn K mainGlobals nm = some (some (.ref f))) : adr K nm = f := by
  unfold adr
  rw [a]
theorem dd_mk (X : K.In h) (G : h.Ns mainGlobals mg) (a : nsIn K mainGlobals nm = some (some (.ref f)))
    (l : K.lookup f = some ⟨oc, od, .func (fnOf nm nm (defArgs st) (defBody st) (defScope st) .none kV doc pm an cdv ct), osl⟩) (c : codeIn K cdv nm = true) (k : keepIn K (.ref f) = true)
    (b : ∀ (kV doc pm : Value) (an : Option Addr) (cdv ct : Value) (us : List Value), us.length = ps.length → bindArgs (fnOf nm nm (defArgs st) (defBody st) (defScope st) .none kV doc pm an cdv ct) ⟨us, []⟩ = pure (ps.zip us)) : ∃ f fd, Dd K mg nm st ps f fd :=
  have F := fun_mk (st := st) l c k
  ⟨_, _, F, mg_of X G a, F.binds b⟩
/-- .. also with keywords -/
theorem dk_mk {ks : List Str} {ix : List Nat} (X : K.In h) (G : h.Ns mainGlobals mg) (a : nsIn K mainGlobals nm = some (some (.ref f)))
    (l : K.lookup f = some ⟨oc, od, .func (fnOf nm nm (defArgs st) (defBody st) (defScope st) .none kV doc pm an cdv ct), osl⟩) (c : codeIn K cdv nm = true) (k : keepIn K (.ref f) = true)
    (b : ∀ (kV doc pm : Value) (an : Option Addr) (cdv ct : Value) (us : List Value), us.length = ps.length → bindArgs (fnOf nm nm (defArgs st) (defBody st) (defScope st) .none kV doc pm an cdv ct) ⟨us, []⟩ = pure (ps.zip us))
    (bk : ∀ (kV doc pm : Value) (an : Option Addr) (cdv ct : Value) (ws : List Value), ws.length = ks.length → bindArgs (fnOf nm nm (defArgs st) (defBody st) (defScope st) .none kV doc pm an cdv ct) ⟨[], ks.zip ws⟩ = pure (ps.zip (pick ix ws))) : ∃ f fd, Dd K mg nm st ps f fd ∧ KW fd ps 0 ks ix := by
  have F := fun_mk (st := st) l c k
  refine ⟨_, _, ⟨F, mg_of X G a, F.binds b⟩, fun s us ws h1 h2 => ?_⟩
  have e := List.length_eq_zero_iff.mp h1
  subst e
  exact .of_eq (bk kV doc pm an cdv ct ws h2)
theorem wi_mk (m : makesIn K (adr K "Web") = true) (kc : keepIn K (.ref (adr K "Web")) = true) (a : nsIn K mainGlobals "Web" = some (some (.ref C))) (i : findIn K (.ref C) "__init__" = some (some (.ref f))) (n : isFn K (.ref f) = true)
    (l : K.lookup f = some ⟨oc, od, .func (fnOf "__init__" "Web.__init__" (defArgs sIni) (defBody sIni) (defScope sIni) .none kV doc pm an cdv ct), osl⟩) (c : codeIn K cdv "Web.__init__" = true) (k : keepIn K (.ref f) = true)
    (b : ∀ (kV doc pm : Value) (an : Option Addr) (cdv ct : Value) (us : List Value), us.length = 4 → bindArgs (fnOf "__init__" "Web.__init__" (defArgs sIni) (defBody sIni) (defScope sIni) .none kV doc pm an cdv ct) ⟨us, []⟩ = pure ((["self", "origin", "goal", "roads"] : List Str).zip us)) : ∃ f fd, WebI K (adr K "Web") f fd := by
  have F := fun_mk (st := sIni) l c k
  have e := adr_of a
  exact ⟨_, _, ⟨m, by rw [e]; exact i, n, kc⟩, F, F.binds b⟩
theorem wn_mk (a : nsIn K mainGlobals "Web" = some (some (.ref C))) (i : findIn K (.ref C) "__len__" = some (some (.ref f))) (n : isFn K (.ref f) = true)
    (l : K.lookup f = some ⟨oc, od, .func (fnOf "__len__" "Web.__len__" (defArgs sLn) (defBody sLn) (defScope sLn) .none kV doc pm an cdv ct), osl⟩) (c : codeIn K cdv "Web.__len__" = true) (k : keepIn K (.ref f) = true)
    (b : ∀ (kV doc pm : Value) (an : Option Addr) (cdv ct : Value) (us : List Value), us.length = 1 → bindArgs (fnOf "__len__" "Web.__len__" (defArgs sLn) (defBody sLn) (defScope sLn) .none kV doc pm an cdv ct) ⟨us, []⟩ = pure ((["self"] : List Str).zip us)) : ∃ f fd, WebN K (adr K "Web") f fd := by
  have F := fun_mk (st := sLn) l c k
  have e := adr_of a
  exact ⟨_, _, by rw [e]; exact i, n, F, F.binds b⟩
theorem wp_mk {ql : Str} {rest : List Value} (a : nsIn K mainGlobals "Web" = some (some (.ref C))) (i : findIn K (.ref C) nm = some (some (.ref p))) (g : specialIn K (.ref p) "__get__" = some (some (.builtin "property.__get__"))) (t : takesIn K (.ref p) = some true)
    (r : recIn K p "property" = some (.ref f :: rest)) (l : K.lookup f = some ⟨oc, od, .func (fnOf nm ql (defArgs st) (defBody st) (defScope st) .none kV doc pm an cdv ct), osl⟩) (c : codeIn K cdv ql = true) (k : keepIn K (.ref f) = true)
    (b : ∀ (kV doc pm : Value) (an : Option Addr) (cdv ct : Value) (us : List Value), us.length = 1 → bindArgs (fnOf nm ql (defArgs st) (defBody st) (defScope st) .none kV doc pm an cdv ct) ⟨us, []⟩ = pure ((["self"] : List Str).zip us)) : ∃ f fd, WebP K (adr K "Web") nm ql st f fd := by
  have F := fun_mk (st := st) l c k
  have e := adr_of a
  exact ⟨_, _, ⟨p, by rw [e]; exact i, g, t, _, r⟩, F, F.binds b⟩
theorem wq_mk {ql : Str} {ks : List Str} {ix : List Nat} (a : nsIn K mainGlobals "Web" = some (some (.ref C))) (i : findIn K (.ref C) nm = some (some (.ref f))) (n : isFn K (.ref f) = true)
    (l : K.lookup f = some ⟨oc, od, .func (fnOf nm ql (defArgs st) (defBody st) (defScope st) .none kV doc pm an cdv ct), osl⟩) (c : codeIn K cdv ql = true) (k : keepIn K (.ref f) = true)
    (b : ∀ (kV doc pm : Value) (an : Option Addr) (cdv ct : Value) (us : List Value), us.length = ps.length → bindArgs (fnOf nm ql (defArgs st) (defBody st) (defScope st) .none kV doc pm an cdv ct) ⟨us, []⟩ = pure (ps.zip us))
    (bk : ∀ (kV doc pm : Value) (an : Option Addr) (cdv ct o : Value) (ws : List Value), ws.length = ks.length → bindArgs (fnOf nm ql (defArgs st) (defBody st) (defScope st) .none kV doc pm an cdv ct) ⟨[o], ks.zip ws⟩ = pure (ps.zip (o :: pick ix ws))) : ∃ f fd, WebQ K (adr K "Web") nm ql st ps f fd ∧ KWs fd ps 0 ks ix := by
  have F := fun_mk (st := st) l c k
  have e := adr_of a
  refine ⟨_, _, ⟨⟨by rw [e]; exact i, n, k⟩, F, F.binds b⟩, fun s o us ws h1 h2 => ?_⟩
  have e := List.length_eq_zero_iff.mp h1
  subst e
  exact .of_eq (bk kV doc pm an cdv ct o ws h2)
theorem sk_of {es : Array DictEntry} (h : (es.toList.all fun e => match e.key with | .str _ _ => true | _ => false) = true) : StrKeys es := by
  intro e he
  rw [List.all_eq_true] at h
  have z := h e (by simpa using he)
  cases q : e.key with
  | str n t => exact ⟨n, t, rfl⟩
  | _ =>
    rw [q] at z
    cases z
/-- the keys of a namespace are texts -/
def skB (K : Frag) (N : Addr) : Bool := match K.lookup N with
  | some ⟨_, _, .dict es _, _⟩ => es.toList.all fun e => match e.key with | .str _ _ => true | _ => false
  | _ => false
theorem nsF_of {N : Addr} {on : Obj} {es : Array DictEntry} {ep : Nat} {name : Str} {r : Option Value} (lN : K.lookup N = some on) (dN : on.data = .dict es ep) (h : nsIn K N name = some r) : nsFind es name = r := by
  obtain ⟨oc2, od2, dat, osl2⟩ := on
  have dN' : dat = .dict es ep := dN
  subst dN'
  unfold nsIn at h
  rw [lN] at h
  dsimp only at h
  unfold nsFind findBy
  rw [← Array.find?_toList]
  cases q : es.toList.find? (fun e => e.key.isStr name) with
  | some e =>
    rw [q] at h
    exact Option.some.inj h
  | none =>
    rw [q] at h
    dsimp only at h
    split at h
    · cases h
    · exact Option.some.inj h
theorem sk_at {N : Addr} {on : Obj} {es : Array DictEntry} {ep : Nat} (lN : K.lookup N = some on) (dN : on.data = .dict es ep) (h : skB K N = true) : StrKeys es := by
  obtain ⟨oc2, od2, dat, osl2⟩ := on
  have dN' : dat = .dict es ep := dN
  subst dN'
  unfold skB at h
  rw [lN] at h
  exact sk_of h
theorem dict_at {N : Addr} {name : Str} {r : Option Value} (h : nsIn K N name = some r) : ∃ on es ep, K.lookup N = some on ∧ on.data = .dict es ep := by
  unfold nsIn at h
  split at h
  · rename_i c d es n sl ho
    exact ⟨_, _, _, ho, rfl⟩
  · cases h
theorem eq_mk {nmc q : Str} {N : Addr} {bs : List Value} {hdct : Bool} {sn : List Str} {sub : List Value} {ab : Bool} {col : Option Bool} {dd : Option Addr} {k0 k1 k2 k3 k5 : Option Value} {newId : String}
    (a : nsIn K mainGlobals "Web" = some (some (.ref C))) (lC : K.lookup C = some (PySem.excClassObj nmc q C N bs [.type "object"] hdct sn sub ab col dd k0 k1 k2 k3 k5 newId))
    (fe : nsIn K N "__eq__" = some (some (.ref f))) (fn : nsIn K N "__ne__" = some none) (sk : skB K N = true)
    (l : K.lookup f = some ⟨.type "function", od, .func (fnOf "__eq__" "Web.__eq__" (defArgs sEq) (defBody sEq) (defScope sEq) .none kV doc pm an cdv ct), osl⟩) (c : codeIn K cdv "Web.__eq__" = true) (k : keepIn K (.ref f) = true)
    (b : ∀ (kV doc pm : Value) (an : Option Addr) (cdv ct : Value) (us : List Value), us.length = 2 → bindArgs (fnOf "__eq__" "Web.__eq__" (defArgs sEq) (defBody sEq) (defScope sEq) .none kV doc pm an cdv ct) ⟨us, []⟩ = pure ((["self", "other"] : List Str).zip us)) :
    ∃ f fd, EqC K (adr K "Web") f ∧ Fun K "__eq__" "Web.__eq__" sEq f fd ∧ Binds K fd ["self", "other"] [] := by
  have F := fun_mk (st := sEq) l c k
  have e := adr_of a
  obtain ⟨on, es, ep, lN, dN⟩ := dict_at fe
  refine ⟨_, _, ⟨?_⟩, F, F.binds b⟩
  rw [e]
  exact ⟨nmc, q, N, bs, hdct, sn, sub, ab, col, dd, k0, k1, k2, k3, k5, newId, on, _, es, ep, lC, lN, dN, sk_at lN dN sk, nsF_of lN dN fe, nsF_of lN dN fn, l, rfl⟩
end
end Kw
namespace Kw
open PySem.W
/-- all that the law needs of the written part -/
structure A5 (K : Frag) (mg : Str → Option Value) (ca : Str → Addr) : Prop where
  B : Tb mg
  B2 : Tb2 mg
  WC : WebC K mg (ca "Web")
  L8 : ∃ t, mg "MOST_ROADS" = some (.int 8 t)
  LC : ∃ t, mg "MOST_COST" = some (.int 1000000 t)
  ini : ∃ f fd, WebI K (ca "Web") f fd
  org : ∃ f fd, WebP K (ca "Web") "origin" "Web.origin" sOrg f fd
  goa : ∃ f fd, WebP K (ca "Web") "goal" "Web.goal" sGoa f fd
  ros : ∃ f fd, WebP K (ca "Web") "roads" "Web.roads" sRos f fd
  ln : ∃ f fd, WebN K (ca "Web") f fd
  jar : ∃ f fd, Dd K mg "_law_jar" sJar ["script", "k"] f fd
  dip : ∃ f fd, Dd K mg "_law_dip" sDip ["jar", "wide"] f fd
  pick : ∃ f fd, Dd K mg "_law_pick" sPick ["jar", "menu"] f fd
  prc : ∃ f fd, Dd K mg "_law_price" sPrc ["jar"] f fd
  ren : ∃ f fd, Dd K mg "_law_renamed" sRen ["jar", "items", "many"] f fd
  made : ∃ f fd, Dd K mg "_law_made" sMade ["jar", "most"] f fd
  cro : ∃ f fd, Dd K mg "_law_crossed" sCro ["jar", "most"] f fd
  any : ∃ f fd, Dd K mg "_law_any_web" sAny ["jar"] f fd
  runs : ∃ f fd, Dd K mg "_law_runs" sRuns ["ends_here", "streets"] f fd
  fin : ∃ f fd, Dd K mg "_law_end" sEnd ["street", "spot"] f fd
  lef : ∃ f fd, Dd K mg "_law_left" sLef ["ends_here", "streets", "gone"] f fd
  right : ∃ f fd, Dd K mg "_law_right" sRight ["jar"] f fd
  ro : ∃ f fd, Dd K mg "routes_on" sRo ["place", "goal", "roads", "met", "begun"] f fd
  oe : ∃ f fd, Dd K mg "other_end" sOe ["road", "place"] f fd
  rts : ∃ f fd, Dd K mg "routes" sRts ["origin", "goal", "roads"] f fd
  us : ∃ f fd, Dd K mg "used_indexes" sUs ["origin", "goal", "roads"] f fd
  nw : ∃ f fd, Dd K mg "need_ways" sNw ["origin", "goal", "roads"] f fd
  nr : ∃ f fd, Dd K mg "need_roads" sNr ["roads"] f fd
  who : ∃ f fd, Dd K mg "is_whole" sWhole ["value", "most"] f fd
  plc : ∃ f fd, Dd K mg "is_place" sPlc ["value"] f fd
  cst : ∃ f fd, Dd K mg "is_cost" sCst ["value"] f fd
  rd : ∃ f fd, Dd K mg "is_road" sRd ["value"] f fd
  nix : ∃ f fd, Dd K mg "need_index" sNix ["web", "index"] f fd
  nxs : ∃ f fd, Dd K mg "need_indexes" sNxs ["web", "indexes"] f fd
  cos : ∃ f fd, WebQ K (ca "Web") "costing" "Web.costing" sCos ["self", "index", "base", "rise"] f fd ∧ KWs fd ["self", "index", "base", "rise"] 0 ["rise", "base", "index"] [2, 1, 0]
  clo : ∃ f fd, WebQ K (ca "Web") "closed" "Web.closed" sClo ["self", "indexes"] f fd ∧ KWs fd ["self", "indexes"] 0 ["indexes"] [0]
  wid : ∃ f fd, WebQ K (ca "Web") "widened" "Web.widened" sWid ["self", "road"] f fd ∧ KWs fd ["self", "road"] 0 ["road"] [0]
  eqs : ∃ f fd, EqC K (ca "Web") f ∧ Fun K "__eq__" "Web.__eq__" sEq f fd ∧ Binds K fd ["self", "other"] []
theorem fin5 {ca : Str → Addr} {P : Program} {w : World} {K : Frag} {mg : Str → Option Value} {base : Heap} {f : Addr} {fd : FuncData} (A : A5 K mg ca) (F : Fun K "law" "law" sLaw f fd) : FnG P w K mg base CX0 28 f fd ["script"] (spP ca K 1 fLaw) := by
  have B := A.B
  have WC := A.WC
  obtain ⟨_, _, Djar⟩ := A.jar
  obtain ⟨_, _, Ddip⟩ := A.dip
  obtain ⟨_, _, Dpick⟩ := A.pick
  obtain ⟨_, _, Dprc⟩ := A.prc
  obtain ⟨_, _, Dren⟩ := A.ren
  obtain ⟨_, _, Dmade⟩ := A.made
  obtain ⟨_, _, Dcro⟩ := A.cro
  obtain ⟨_, _, Dany⟩ := A.any
  obtain ⟨_, _, Druns⟩ := A.runs
  obtain ⟨_, _, Dfin⟩ := A.fin
  obtain ⟨_, _, Dlef⟩ := A.lef
  obtain ⟨_, _, Dright⟩ := A.right
  obtain ⟨_, _, Qcos, Kcos⟩ := A.cos
  obtain ⟨_, _, Qclo, Kclo⟩ := A.clo
  obtain ⟨_, _, Qwid, Kwid⟩ := A.wid
  have Y : WbF ca K mg := ⟨B, WC, A.L8, A.LC, A.ini, A.ln, A.ro, A.oe, A.rts, A.us, A.nw, A.nr, A.who, A.plc, A.cst, A.rd, A.nix, A.nxs⟩
  have Oren := ok_ren (ca := ca) (P := P) (w := w) (base := base) Dren.F B A.B2.lst Ddip Dpick Dprc
  have Ocro := ok_cro (ca := ca) (P := P) (w := w) (base := base) Dcro.F B Ddip Dren Oren
  have Oany := ok_any (ca := ca) (P := P) (w := w) (base := base) Dany.F B Ddip Dren Oren Dmade Dcro Ocro
  have Oprc := ok_prc (ca := ca) (P := P) (w := w) (base := base) Dprc.F B Ddip Dpick
  have Oruns := ok_runs (ca := ca) (P := P) (w := w) (base := base) Druns.F B Dfin
  have Olef := ok_lef (ca := ca) (P := P) (w := w) (base := base) Dlef.F B Druns Oruns
  have L : R5 ca P w K mg base := ⟨B, A.B2, WC, A.dip, ⟨_, _, Dprc, Oprc⟩, ⟨_, _, Dany, Oany⟩, wbf_ini Y, ⟨_, _, Dlef, Olef⟩, A.org, A.goa, A.ros, ⟨⟨_, _, Qcos, Kcos, ok_cos Qcos.F Y⟩⟩, ⟨⟨_, _, Qclo, Kclo, ok_clo Qclo.F Y⟩⟩, ⟨⟨_, _, Qwid, Kwid, ok_wid Qwid.F Y⟩⟩, A.eqs⟩
  exact ok_law F L Djar Dright
end Kw
open PySem PySem.W PyProof.Rows in
set_option maxHeartbeats 0 in
open_top hd1 for PySem.Challenge.rw_closedroads_k05_whole_webs_changed
open PySem PySem.W PyProof.Rows
set_option maxHeartbeats 0

theorem kw_bl (P : Params) : Kw.blB (hd1.heap_39 P) = true := by kernel_rfl
theorem kw_web (P : Params) : Kw.webB (hd1.heap_39 P) = true := by kernel_rfl
theorem kw_roads (P : Params) : Kw.isI (hd1.heap_39 P) "MOST_ROADS" 8 = true := by kernel_rfl
theorem kw_cost (P : Params) : Kw.isI (hd1.heap_39 P) "MOST_COST" 1000000 = true := by kernel_rfl
theorem PySem.Challenge.cw_closedroads_k05_whole_webs_changed_holds : PySem.Challenge.rw_closedroads_k05_whole_webs_changed.Holds :=
  hd1 (by
  k_fill
  refine Al.walkG (l := PySem.Challenge.rw_closedroads_k05_whole_webs_changed) (n := 63) (k := 28) (x := "script") (K := hd1.heap_39) (ca := fun P => Kw.adr (hd1.heap_39 P)) (φ := Kw.fLaw) rfl (by decide) rfl ⟨rfl, by decide, by decide⟩ (fun w h Y => kIn_of Y) ?F ?S
  case S => exact fun ns hl p kx hp => ⟨ns, rfl, hl, hp⟩
  case F =>
    intro w mg fa h KX G hmg
    obtain ⟨x_B, x_B2⟩ := Kw.tb_mk KX G (kw_bl w.params)
    obtain ⟨x_WC, mkc, kpc⟩ := Kw.wc_mk KX G (kw_web w.params)
    have x_L8 := Kw.isI_of KX G (kw_roads w.params)
    have x_LC := Kw.isI_of KX G (kw_cost w.params)
    have x_ini : ∃ f fd, Kw.WebI (hd1.heap_39 w.params) (Kw.adr (hd1.heap_39 w.params) "Web") f fd := by
      refine' Kw.wi_mk mkc kpc ?a ?i ?n ?l ?c ?k ?b
      (case a => k_is); (case i => k_is); (case n => k_is); (case l => k_is); (case c => k_is); (case k => k_is)
      (case b => exact fun _ _ _ _ _ _ us hl => match us, hl with | [_, _, _, _], _ => rfl)
    have x_org : ∃ f fd, Kw.WebP (hd1.heap_39 w.params) (Kw.adr (hd1.heap_39 w.params) "Web") "origin" "Web.origin" Kw.sOrg f fd := by
      refine' Kw.wp_mk ?a ?i ?g ?t ?r ?l ?c ?k ?b
      (case a => k_is); (case i => k_is); (case g => k_is); (case t => k_is); (case r => k_is); (case l => k_is); (case c => k_is); (case k => k_is)
      (case b => exact fun _ _ _ _ _ _ us hl => match us, hl with | [_], _ => rfl)
    have x_goa : ∃ f fd, Kw.WebP (hd1.heap_39 w.params) (Kw.adr (hd1.heap_39 w.params) "Web") "goal" "Web.goal" Kw.sGoa f fd := by
      refine' Kw.wp_mk ?a ?i ?g ?t ?r ?l ?c ?k ?b
      (case a => k_is); (case i => k_is); (case g => k_is); (case t => k_is); (case r => k_is); (case l => k_is); (case c => k_is); (case k => k_is)
      (case b => exact fun _ _ _ _ _ _ us hl => match us, hl with | [_], _ => rfl)
    have x_ros : ∃ f fd, Kw.WebP (hd1.heap_39 w.params) (Kw.adr (hd1.heap_39 w.params) "Web") "roads" "Web.roads" Kw.sRos f fd := by
      refine' Kw.wp_mk ?a ?i ?g ?t ?r ?l ?c ?k ?b
      (case a => k_is); (case i => k_is); (case g => k_is); (case t => k_is); (case r => k_is); (case l => k_is); (case c => k_is); (case k => k_is)
      (case b => exact fun _ _ _ _ _ _ us hl => match us, hl with | [_], _ => rfl)
    have x_ln : ∃ f fd, Kw.WebN (hd1.heap_39 w.params) (Kw.adr (hd1.heap_39 w.params) "Web") f fd := by
      refine' Kw.wn_mk ?a ?i ?n ?l ?c ?k ?b
      (case a => k_is); (case i => k_is); (case n => k_is); (case l => k_is); (case c => k_is); (case k => k_is)
      (case b => exact fun _ _ _ _ _ _ us hl => match us, hl with | [_], _ => rfl)
    have x_jar : ∃ f fd, Kw.Dd (hd1.heap_39 w.params) mg "_law_jar" Kw.sJar ["script", "k"] f fd := by
      refine' Kw.dd_mk KX G ?a ?l ?c ?k ?b
      (case a => k_is); (case l => k_is); (case c => k_is); (case k => k_is)
      (case b => exact fun _ _ _ _ _ _ us hl => match us, hl with | [_, _], _ => rfl)
    have x_dip : ∃ f fd, Kw.Dd (hd1.heap_39 w.params) mg "_law_dip" Kw.sDip ["jar", "wide"] f fd := by
      refine' Kw.dd_mk KX G ?a ?l ?c ?k ?b
      (case a => k_is); (case l => k_is); (case c => k_is); (case k => k_is)
      (case b => exact fun _ _ _ _ _ _ us hl => match us, hl with | [_, _], _ => rfl)
    have x_pick : ∃ f fd, Kw.Dd (hd1.heap_39 w.params) mg "_law_pick" Kw.sPick ["jar", "menu"] f fd := by
      refine' Kw.dd_mk KX G ?a ?l ?c ?k ?b
      (case a => k_is); (case l => k_is); (case c => k_is); (case k => k_is)
      (case b => exact fun _ _ _ _ _ _ us hl => match us, hl with | [_, _], _ => rfl)
    have x_prc : ∃ f fd, Kw.Dd (hd1.heap_39 w.params) mg "_law_price" Kw.sPrc ["jar"] f fd := by
      refine' Kw.dd_mk KX G ?a ?l ?c ?k ?b
      (case a => k_is); (case l => k_is); (case c => k_is); (case k => k_is)
      (case b => exact fun _ _ _ _ _ _ us hl => match us, hl with | [_], _ => rfl)
    have x_ren : ∃ f fd, Kw.Dd (hd1.heap_39 w.params) mg "_law_renamed" Kw.sRen ["jar", "items", "many"] f fd := by
      refine' Kw.dd_mk KX G ?a ?l ?c ?k ?b
      (case a => k_is); (case l => k_is); (case c => k_is); (case k => k_is)
      (case b => exact fun _ _ _ _ _ _ us hl => match us, hl with | [_, _, _], _ => rfl)
    have x_made : ∃ f fd, Kw.Dd (hd1.heap_39 w.params) mg "_law_made" Kw.sMade ["jar", "most"] f fd := by
      refine' Kw.dd_mk KX G ?a ?l ?c ?k ?b
      (case a => k_is); (case l => k_is); (case c => k_is); (case k => k_is)
      (case b => exact fun _ _ _ _ _ _ us hl => match us, hl with | [_, _], _ => rfl)
    have x_cro : ∃ f fd, Kw.Dd (hd1.heap_39 w.params) mg "_law_crossed" Kw.sCro ["jar", "most"] f fd := by
      refine' Kw.dd_mk KX G ?a ?l ?c ?k ?b
      (case a => k_is); (case l => k_is); (case c => k_is); (case k => k_is)
      (case b => exact fun _ _ _ _ _ _ us hl => match us, hl with | [_, _], _ => rfl)
    have x_any : ∃ f fd, Kw.Dd (hd1.heap_39 w.params) mg "_law_any_web" Kw.sAny ["jar"] f fd := by
      refine' Kw.dd_mk KX G ?a ?l ?c ?k ?b
      (case a => k_is); (case l => k_is); (case c => k_is); (case k => k_is)
      (case b => exact fun _ _ _ _ _ _ us hl => match us, hl with | [_], _ => rfl)
    have x_runs : ∃ f fd, Kw.Dd (hd1.heap_39 w.params) mg "_law_runs" Kw.sRuns ["ends_here", "streets"] f fd := by
      refine' Kw.dd_mk KX G ?a ?l ?c ?k ?b
      (case a => k_is); (case l => k_is); (case c => k_is); (case k => k_is)
      (case b => exact fun _ _ _ _ _ _ us hl => match us, hl with | [_, _], _ => rfl)
    have x_fin : ∃ f fd, Kw.Dd (hd1.heap_39 w.params) mg "_law_end" Kw.sEnd ["street", "spot"] f fd := by
      refine' Kw.dd_mk KX G ?a ?l ?c ?k ?b
      (case a => k_is); (case l => k_is); (case c => k_is); (case k => k_is)
      (case b => exact fun _ _ _ _ _ _ us hl => match us, hl with | [_, _], _ => rfl)
    have x_lef : ∃ f fd, Kw.Dd (hd1.heap_39 w.params) mg "_law_left" Kw.sLef ["ends_here", "streets", "gone"] f fd := by
      refine' Kw.dd_mk KX G ?a ?l ?c ?k ?b
      (case a => k_is); (case l => k_is); (case c => k_is); (case k => k_is)
      (case b => exact fun _ _ _ _ _ _ us hl => match us, hl with | [_, _, _], _ => rfl)
    have x_right : ∃ f fd, Kw.Dd (hd1.heap_39 w.params) mg "_law_right" Kw.sRight ["jar"] f fd := by
      refine' Kw.dd_mk KX G ?a ?l ?c ?k ?b
      (case a => k_is); (case l => k_is); (case c => k_is); (case k => k_is)
      (case b => exact fun _ _ _ _ _ _ us hl => match us, hl with | [_], _ => rfl)
    have x_ro : ∃ f fd, Kw.Dd (hd1.heap_39 w.params) mg "routes_on" Kw.sRo ["place", "goal", "roads", "met", "begun"] f fd := by
      refine' Kw.dd_mk KX G ?a ?l ?c ?k ?b
      (case a => k_is); (case l => k_is); (case c => k_is); (case k => k_is)
      (case b => exact fun _ _ _ _ _ _ us hl => match us, hl with | [_, _, _, _, _], _ => rfl)
    have x_oe : ∃ f fd, Kw.Dd (hd1.heap_39 w.params) mg "other_end" Kw.sOe ["road", "place"] f fd := by
      refine' Kw.dd_mk KX G ?a ?l ?c ?k ?b
      (case a => k_is); (case l => k_is); (case c => k_is); (case k => k_is)
      (case b => exact fun _ _ _ _ _ _ us hl => match us, hl with | [_, _], _ => rfl)
    have x_rts : ∃ f fd, Kw.Dd (hd1.heap_39 w.params) mg "routes" Kw.sRts ["origin", "goal", "roads"] f fd := by
      refine' Kw.dd_mk KX G ?a ?l ?c ?k ?b
      (case a => k_is); (case l => k_is); (case c => k_is); (case k => k_is)
      (case b => exact fun _ _ _ _ _ _ us hl => match us, hl with | [_, _, _], _ => rfl)
    have x_us : ∃ f fd, Kw.Dd (hd1.heap_39 w.params) mg "used_indexes" Kw.sUs ["origin", "goal", "roads"] f fd := by
      refine' Kw.dd_mk KX G ?a ?l ?c ?k ?b
      (case a => k_is); (case l => k_is); (case c => k_is); (case k => k_is)
      (case b => exact fun _ _ _ _ _ _ us hl => match us, hl with | [_, _, _], _ => rfl)
    have x_nw : ∃ f fd, Kw.Dd (hd1.heap_39 w.params) mg "need_ways" Kw.sNw ["origin", "goal", "roads"] f fd := by
      refine' Kw.dd_mk KX G ?a ?l ?c ?k ?b
      (case a => k_is); (case l => k_is); (case c => k_is); (case k => k_is)
      (case b => exact fun _ _ _ _ _ _ us hl => match us, hl with | [_, _, _], _ => rfl)
    have x_nr : ∃ f fd, Kw.Dd (hd1.heap_39 w.params) mg "need_roads" Kw.sNr ["roads"] f fd := by
      refine' Kw.dd_mk KX G ?a ?l ?c ?k ?b
      (case a => k_is); (case l => k_is); (case c => k_is); (case k => k_is)
      (case b => exact fun _ _ _ _ _ _ us hl => match us, hl with | [_], _ => rfl)
    have x_who : ∃ f fd, Kw.Dd (hd1.heap_39 w.params) mg "is_whole" Kw.sWhole ["value", "most"] f fd := by
      refine' Kw.dd_mk KX G ?a ?l ?c ?k ?b
      (case a => k_is); (case l => k_is); (case c => k_is); (case k => k_is)
      (case b => exact fun _ _ _ _ _ _ us hl => match us, hl with | [_, _], _ => rfl)
    have x_plc : ∃ f fd, Kw.Dd (hd1.heap_39 w.params) mg "is_place" Kw.sPlc ["value"] f fd := by
      refine' Kw.dd_mk KX G ?a ?l ?c ?k ?b
      (case a => k_is); (case l => k_is); (case c => k_is); (case k => k_is)
      (case b => exact fun _ _ _ _ _ _ us hl => match us, hl with | [_], _ => rfl)
    have x_cst : ∃ f fd, Kw.Dd (hd1.heap_39 w.params) mg "is_cost" Kw.sCst ["value"] f fd := by
      refine' Kw.dd_mk KX G ?a ?l ?c ?k ?b
      (case a => k_is); (case l => k_is); (case c => k_is); (case k => k_is)
      (case b => exact fun _ _ _ _ _ _ us hl => match us, hl with | [_], _ => rfl)
    have x_rd : ∃ f fd, Kw.Dd (hd1.heap_39 w.params) mg "is_road" Kw.sRd ["value"] f fd := by
      refine' Kw.dd_mk KX G ?a ?l ?c ?k ?b
      (case a => k_is); (case l => k_is); (case c => k_is); (case k => k_is)
      (case b => exact fun _ _ _ _ _ _ us hl => match us, hl with | [_], _ => rfl)
    have x_nix : ∃ f fd, Kw.Dd (hd1.heap_39 w.params) mg "need_index" Kw.sNix ["web", "index"] f fd := by
      refine' Kw.dd_mk KX G ?a ?l ?c ?k ?b
      (case a => k_is); (case l => k_is); (case c => k_is); (case k => k_is)
      (case b => exact fun _ _ _ _ _ _ us hl => match us, hl with | [_, _], _ => rfl)
    have x_nxs : ∃ f fd, Kw.Dd (hd1.heap_39 w.params) mg "need_indexes" Kw.sNxs ["web", "indexes"] f fd := by
      refine' Kw.dd_mk KX G ?a ?l ?c ?k ?b
      (case a => k_is); (case l => k_is); (case c => k_is); (case k => k_is)
      (case b => exact fun _ _ _ _ _ _ us hl => match us, hl with | [_, _], _ => rfl)
    have x_cos : ∃ f fd, Kw.WebQ (hd1.heap_39 w.params) (Kw.adr (hd1.heap_39 w.params) "Web") "costing" "Web.costing" Kw.sCos ["self", "index", "base", "rise"] f fd ∧ Al.KWs fd ["self", "index", "base", "rise"] 0 ["rise", "base", "index"] [2, 1, 0] := by
      refine' Kw.wq_mk ?a ?i ?n ?l ?c ?k ?b ?bk
      (case a => k_is); (case i => k_is); (case n => k_is); (case l => k_is); (case c => k_is); (case k => k_is)
      (case b => exact fun _ _ _ _ _ _ us hl => match us, hl with | [_, _, _, _], _ => rfl)
      (case bk => exact fun _ _ _ _ _ _ _ us hl => match us, hl with | [_, _, _], _ => rfl)
    have x_clo : ∃ f fd, Kw.WebQ (hd1.heap_39 w.params) (Kw.adr (hd1.heap_39 w.params) "Web") "closed" "Web.closed" Kw.sClo ["self", "indexes"] f fd ∧ Al.KWs fd ["self", "indexes"] 0 ["indexes"] [0] := by
      refine' Kw.wq_mk ?a ?i ?n ?l ?c ?k ?b ?bk
      (case a => k_is); (case i => k_is); (case n => k_is); (case l => k_is); (case c => k_is); (case k => k_is)
      (case b => exact fun _ _ _ _ _ _ us hl => match us, hl with | [_, _], _ => rfl)
      (case bk => exact fun _ _ _ _ _ _ _ us hl => match us, hl with | [_], _ => rfl)
    have x_wid : ∃ f fd, Kw.WebQ (hd1.heap_39 w.params) (Kw.adr (hd1.heap_39 w.params) "Web") "widened" "Web.widened" Kw.sWid ["self", "road"] f fd ∧ Al.KWs fd ["self", "road"] 0 ["road"] [0] := by
      refine' Kw.wq_mk ?a ?i ?n ?l ?c ?k ?b ?bk
      (case a => k_is); (case i => k_is); (case n => k_is); (case l => k_is); (case c => k_is); (case k => k_is)
      (case b => exact fun _ _ _ _ _ _ us hl => match us, hl with | [_, _], _ => rfl)
      (case bk => exact fun _ _ _ _ _ _ _ us hl => match us, hl with | [_], _ => rfl)
    have x_eqs : ∃ f fd, Al.EqC (hd1.heap_39 w.params) (Kw.adr (hd1.heap_39 w.params) "Web") f ∧ L2.Fun (hd1.heap_39 w.params) "__eq__" "Web.__eq__" Kw.sEq f fd ∧ L2.Binds (hd1.heap_39 w.params) fd ["self", "other"] [] := by
      refine' Kw.eq_mk ?a ?lC ?fe ?fn ?sk ?l ?c ?k ?b
      (case a => k_is); (case lC => k_is); (case fe => k_is); (case fn => k_is); (case sk => first | kernel_rfl | rfl); (case l => k_is); (case c => k_is); (case k => k_is)
      (case b => exact fun _ _ _ _ _ _ us hl => match us, hl with | [_, _], _ => rfl)
    have A : Kw.A5 (hd1.heap_39 w.params) mg (Kw.adr (hd1.heap_39 w.params)) := ⟨x_B, x_B2, x_WC, x_L8, x_LC, x_ini, x_org, x_goa, x_ros, x_ln, x_jar, x_dip, x_pick, x_prc, x_ren, x_made, x_cro, x_any, x_runs, x_fin, x_lef, x_right, x_ro, x_oe, x_rts, x_us, x_nw, x_nr, x_who, x_plc, x_cst, x_rd, x_nix, x_nxs, x_cos, x_clo, x_wid, x_eqs⟩
    obtain ⟨f, fd, D⟩ : ∃ f fd, Kw.Dd (hd1.heap_39 w.params) mg "law" Kw.sLaw ["script"] f fd := by
      refine' Kw.dd_mk KX G ?a ?l ?c ?k ?b
      (case a => k_is); (case l => k_is); (case c => k_is); (case k => k_is)
      (case b => exact fun _ _ _ _ _ _ us hl => match us, hl with | [_], _ => rfl)
    have e := hmg.symm.trans D.g
    cases e
    refine ⟨fd, fun s u => ?_, fun base _ _ => Kw.fin5 A D.F⟩
    obtain ⟨oc, od, kV, doc, pm, an, cdv, ct, osl, efd, lk, hcd⟩ := D.F.ex
    subst efd
    exact .of_eq rfl)
