import PyProof.Rows.All
import Wide.All
import OpenK.AllK
import Wide.FinOn
import HandS.ForExc
import HandS.Comp
import HandS.Text
import HandS.Dict
import HandS.IsInst
import HandS.TupAny
import HandS.Style
import HandS.Wide
import HandS.ExcInit
import HandS.ExcField
import HandS.ExcIs
import HandS.CallLocal
import HandS.Walk
import HandS.Lambda
import HandS.EndBits
import HandS.FStrTup
import HandS.ExcOwn
import KE.KExcIs
import HandS.Evl
import HandS.Ends
import KE.GoesMore
import HandS.Iter
import HandS.DictComp
import HandS.TryMany
import HandS.Zip
import HandS.Conv
import HandS.EndTab
import PySem.Challenge.RW_plainmoment_k19_whole_reaches_of_kept
set_option Elab.async false
set_option linter.all false
set_option maxRecDepth 100000
set_option maxHeartbeats 2000000
/-! A layer of plain data over the hand layer: what a def does is told by predicates over data, without addresses. -/
namespace DL
open PySem PySem.Spec PyProof.Rows L2

inductive D where
  | non | bl (b : Bool) | int (i : Int) | str (x : Str) | lst (xs : List D) | tup (xs : List D) | src (p : Addr) | fn (f : Addr) | exn (a d : Addr) (t : D) | sq (K : PySem.W.Frag) (ns : List Int)
  | ins (C : Addr) (ns : List Str) (ds : List D) | dct (ks : List Key) (ds : List D)

/-- what is known of an owned address -/
inductive Own where
  | src | hold (o : HO) | tab (q : Str)
/-- the tables of code objects that are owned from the start on -/
class TabCtx where
  T : List (Addr × Str)
variable [TabCtx]
def SrcOk (o : HO) : Prop := ∃ a b : Int, o = .lst [.int a, .int b] ∧ 0 ≤ b ∧ b < 2147483647
def TabOk (H : Hp) (q : Str) (o : HO) : Prop := ∃ ps : Array Value, o = .tbl ps ∧ TriplesOk ps.toList ∧ ∀ (pos : Pos) (cv : Value), codeAmong pos ps.toList = some cv → ∃ c, cv = .ref c ∧ H c = some (LamX.CodeO c q)
def ownOk (H : Hp) : Own → HO → Prop
  | .src, o => SrcOk o
  | .hold o', o => o = o'
  | .tab q, o => TabOk H q o
omit [TabCtx] in
theorem ownOk.mono {H H' : Hp} {w : Own} {o : HO} (h : ownOk H w o) (e : ∀ c q, H c = some (LamX.CodeO c q) → H' c = some (LamX.CodeO c q)) : ownOk H' w o := by
  cases w with
  | src => exact h
  | hold o' => exact h
  | tab q =>
    obtain ⟨ps, h1, h2, h3⟩ := h
    exact ⟨ps, h1, h2, fun pos cv z => by
      obtain ⟨c, e1, e2⟩ := h3 pos cv z
      exact ⟨c, e1, e _ _ e2⟩⟩
def NoCode (H : Hp) (p : Addr) : Prop := ∀ q, H p ≠ some (LamX.CodeO p q)
omit [TabCtx] in
theorem noCode_none {H : Hp} {p : Addr} (h : H p = none) : NoCode H p := fun q z => by
  rw [h] at z
  cases z
omit [TabCtx] in
theorem noCode_of {H : Hp} {p : Addr} {o : HO} (h : H p = some o) (n : ∀ φ, o ≠ .ext φ := by intro φ z; cases z) : NoCode H p := fun q z => by
  rw [h] at z
  exact n _ (Option.some.inj z)
omit [TabCtx] in
theorem ownOk.upd {H : Hp} {w : Own} {o o' : HO} {p : Addr} (h : ownOk H w o) (n : NoCode H p) : ownOk (L2.upd H p o') w o := h.mono fun c q z => by
  by_cases e : c = p
  · subst e
    exact absurd z (n q)
  · rw [upd_ne e]
    exact z
/-- no table of code objects -/
def NT (o : HO) : Prop := ∀ ps, o ≠ .tbl ps
abbrev Ow := List (Addr × Own)
def OwnAt (H : Hp) (p : Addr × Own) : Prop := ∃ o, H p.1 = some o ∧ ownOk H p.2 o
/-- just the tables are owned as tables; what is held is none -/
structure TabsOk (O : Ow) : Prop where
  iff : ∀ t : Addr × Str, t ∈ TabCtx.T ↔ (t.1, Own.tab t.2) ∈ O
  held : ∀ p o, (p, Own.hold o) ∈ O → NT o
theorem TabsOk.hold {O : Ow} {p : Addr} {o : HO} (h : TabsOk O) (n : NT o := by intro ps z; cases z) : TabsOk (O ++ [(p, .hold o)]) :=
  ⟨fun t => (h.iff t).trans ⟨fun z => List.mem_append_left _ z, fun z => by
    rcases List.mem_append.mp z with z | z
    · exact z
    · cases List.mem_singleton.mp z⟩, fun q u z => by
    rcases List.mem_append.mp z with z | z
    · exact h.held q u z
    · cases List.mem_singleton.mp z
      exact n⟩
theorem TabsOk.less {O : Ow} {p : Addr} {o : HO} (h : TabsOk (O ++ [(p, .hold o)])) : TabsOk O :=
  ⟨fun t => (h.iff t).trans ⟨fun z => (List.mem_append.mp z).elim id fun z => (by cases List.mem_singleton.mp z), fun z => List.mem_append_left _ z⟩, fun q u z => h.held q u (List.mem_append_left _ z)⟩
structure OwnAll (O : Ow) (H : Hp) : Prop where
  here : ∀ p ∈ O, OwnAt H p
  uq : ∀ p ∈ O, ∀ q ∈ O, p.1 = q.1 → p = q
  tabs : TabsOk O
def Out (O : Ow) (a : Addr) : Prop := ∀ p ∈ O, a ≠ p.1
structure Ext (O : Ow) (H H' : Hp) : Prop where
  keep : ∀ b o, Out O b → H b = some o → NT o → H' b = some o
  own : ∀ p ∈ O, OwnAt H p → OwnAt H' p
theorem Ext.refl (O : Ow) (H : Hp) : Ext O H H := ⟨fun _ _ _ h _ => h, fun _ _ h => h⟩
theorem Ext.trans {O : Ow} {H H1 H2 : Hp} (a : Ext O H H1) (b : Ext O H1 H2) : Ext O H H2 :=
  ⟨fun c o x h n => b.keep c o x (a.keep c o x h n) n, fun p hp h => b.own p hp (a.own p hp h)⟩
theorem Ext.same {O : Ow} {H H' : Hp} (a : Same H H') : Ext O H H' :=
  ⟨fun c o _ h _ => a c o h, fun p _ ⟨o, h, k⟩ => ⟨o, a _ _ h, k.mono fun _ _ z => a _ _ z⟩⟩
theorem OwnAll.mono {O : Ow} {H H' : Hp} (h : OwnAll O H) (e : Ext O H H') : OwnAll O H' := ⟨fun p hp => e.own p hp (h.here p hp), h.uq, h.tabs⟩
theorem OwnAll.out {O : Ow} {H : Hp} {p : Addr} (h : OwnAll O H) (n : H p = none) : Out O p := fun q hq e => by
  obtain ⟨o, k, _⟩ := h.here q hq
  rw [e, k] at n
  cases n
/-- no known thing but a table stands there -/
def Fresh (H : Hp) (p : Addr) : Prop := ∀ b o, H b = some o → NT o → b ≠ p
omit [TabCtx] in
theorem fresh_none {H : Hp} {p : Addr} (n : H p = none) : Fresh H p := fun b o h _ => ne_of_none h n
/-- a new object -/
theorem Ext.new {O : Ow} {H : Hp} {p : Addr} {o : HO} (n : H p = none) : Ext O H (upd H p o) :=
  .same fun b u e => by
    rw [upd_ne (ne_of_none e n)]
    exact e

/-- a list of the module's own objects -/
def KL (K : PySem.W.Frag) (a : Addr) (xs : List V) : Prop := SqL K (fun _ => none) a xs
theorem KL.sq {K : PySem.W.Frag} {a : Addr} {xs : List V} (h : KL K a xs) (H : Hp) : SqL K H a xs := by
  rcases h with h | h
  · rcases h with h | ⟨o, h⟩ <;> cases h
  · exact .inr h
mutual
inductive Dq (O : Ow) (H : Hp) : V → D → Prop
  | non : Dq O H .non .non
  | bl (b : Bool) : Dq O H (.bl b) (.bl b)
  | int (i : Int) : Dq O H (.int i) (.int i)
  | str (x : Str) : Dq O H (.str x) (.str x)
  | lst {a : Addr} {xs : List V} {ds : List D} : Out O a → H a = some (.lst xs) → DqAll O H xs ds → Dq O H (.ref a) (.lst ds)
  | tup {a : Addr} {xs : List V} {ds : List D} : Out O a → Rd H a (.tup xs) → DqAll O H xs ds → Dq O H (.ref a) (.tup ds)
  | src {p : Addr} : (p, Own.src) ∈ O → Dq O H (.ref p) (.src p)
  | fn (f : Addr) : Dq O H (.ref f) (.fn f)
  | exn {a dx : Addr} {v : V} {t : D} : Out O dx → H dx = some (.xd [("told", v)]) → Dq O H v t → Dq O H (.ref a) (.exn a dx t)
  | sq {K : PySem.W.Frag} {a : Addr} {ns : List Int} : ((Out O a ∧ Rd H a (.lst (ns.map V.int))) ∨ KL K a (ns.map V.int)) → Dq O H (.ref a) (.sq K ns)
  | ins {a C dx : Addr} {ns : List Str} {vs : List V} {ds : List D} : Out O a → H a = some (.ins C dx (ns.zip vs)) → DqAll O H vs ds → Dq O H (.ref a) (.ins C ns ds)
  | dct {a : Addr} {ks : List Key} {vs : List V} {ds : List D} : Out O a → H a = some (.dK (ks.zip vs)) → DqAll O H vs ds → Dq O H (.ref a) (.dct ks ds)
inductive DqAll (O : Ow) (H : Hp) : List V → List D → Prop
  | nil : DqAll O H [] []
  | cons {v : V} {vs : List V} {d : D} {ds : List D} : Dq O H v d → DqAll O H vs ds → DqAll O H (v :: vs) (d :: ds)
end
theorem rd_keep {O : Ow} {H H' : Hp} {a : Addr} {u : HO} (e : ∀ b o, Out O b → H b = some o → NT o → H' b = some o) (x : Out O a) (h : Rd H a u) (n : NT u := by intro ps z; cases z) : Rd H' a u := by
  rcases h with h | ⟨o, h⟩
  · exact .inl (e _ _ x h n)
  · exact .inr ⟨o, e _ _ x h (by intro ps z; cases z)⟩
mutual
theorem Dq.keep {O : Ow} {H H' : Hp} (e : ∀ b o, Out O b → H b = some o → NT o → H' b = some o) : ∀ {v : V} {d : D}, Dq O H v d → Dq O H' v d
  | _, _, .non => .non
  | _, _, .bl b => .bl b
  | _, _, .int i => .int i
  | _, _, .str x => .str x
  | _, _, .lst x r a => .lst x (e _ _ x r (by intro ps z; cases z)) (a.keep e)
  | _, _, .tup x r a => .tup x (rd_keep e x r) (a.keep e)
  | _, _, .src h => .src h
  | _, _, .fn f => .fn f
  | _, _, .exn x r a => .exn x (e _ _ x r (by intro ps z; cases z)) (a.keep e)
  | _, _, .sq h => .sq (h.imp (fun z => ⟨z.1, rd_keep e z.1 z.2⟩) id)
  | _, _, .ins x r a => .ins x (e _ _ x r (by intro ps z; cases z)) (a.keep e)
  | _, _, .dct x r a => .dct x (e _ _ x r (by intro ps z; cases z)) (a.keep e)
theorem DqAll.keep {O : Ow} {H H' : Hp} (e : ∀ b o, Out O b → H b = some o → NT o → H' b = some o) : ∀ {vs : List V} {ds : List D}, DqAll O H vs ds → DqAll O H' vs ds
  | _, _, .nil => .nil
  | _, _, .cons a b => .cons (a.keep e) (b.keep e)
end
theorem Dq.mono {O : Ow} {H H' : Hp} (e : Ext O H H') {v : V} {d : D} (h : Dq O H v d) : Dq O H' v d := h.keep e.keep
theorem DqAll.mono {O : Ow} {H H' : Hp} (e : Ext O H H') {vs : List V} {ds : List D} (h : DqAll O H vs ds) : DqAll O H' vs ds := h.keep e.keep
mutual
/-- one more owned address, new -/
theorem Dq.more {O : Ow} {H : Hp} {q : Addr} {w : Own} (n : Fresh H q) : ∀ {v : V} {d : D}, Dq O H v d → Dq (O ++ [(q, w)]) H v d
  | _, _, .non => .non
  | _, _, .bl b => .bl b
  | _, _, .int i => .int i
  | _, _, .str x => .str x
  | _, _, .lst x r a => .lst (out_more n x (.inl r)) r (a.more n)
  | _, _, .tup x r a => .tup (out_more n x r) r (a.more n)
  | _, _, .src h => .src (List.mem_append_left _ h)
  | _, _, .fn f => .fn f
  | _, _, .exn x r a => .exn (out_more n x (.inl r)) r (a.more n)
  | _, _, .sq h => .sq (h.imp (fun z => ⟨out_more n z.1 z.2, z.2⟩) id)
  | _, _, .ins x r a => .ins (out_more n x (.inl r)) r (a.more n)
  | _, _, .dct x r a => .dct (out_more n x (.inl r)) r (a.more n)
theorem DqAll.more {O : Ow} {H : Hp} {q : Addr} {w : Own} (n : Fresh H q) : ∀ {vs : List V} {ds : List D}, DqAll O H vs ds → DqAll (O ++ [(q, w)]) H vs ds
  | _, _, .nil => .nil
  | _, _, .cons a b => .cons (a.more n) (b.more n)
theorem out_more {O : Ow} {H : Hp} {q a : Addr} {w : Own} {u : HO} (n : Fresh H q) (x : Out O a) (r : Rd H a u) (t : NT u := by intro ps z; cases z) : Out (O ++ [(q, w)]) a := fun p hp => by
  rcases List.mem_append.mp hp with h | h
  · exact x p h
  · have e : p = (q, w) := by simpa using h
    subst e
    rcases r with r | ⟨o, r⟩
    · exact n _ _ r t
    · exact n _ _ r (by intro ps z; cases z)
end
mutual
/-- an owned address that is no source is given up -/
theorem Dq.less {O : Ow} {H : Hp} {q : Addr} {o : HO} : ∀ {v : V} {d : D}, Dq (O ++ [(q, .hold o)]) H v d → Dq O H v d
  | _, _, .non => .non
  | _, _, .bl b => .bl b
  | _, _, .int i => .int i
  | _, _, .str x => .str x
  | _, _, .lst x r a => .lst (fun p hp => x p (List.mem_append_left _ hp)) r a.less
  | _, _, .tup x r a => .tup (fun p hp => x p (List.mem_append_left _ hp)) r a.less
  | _, _, .src h => .src (by
      rcases List.mem_append.mp h with h | h
      · exact h
      · simp at h)
  | _, _, .fn f => .fn f
  | _, _, .exn x r a => .exn (fun p hp => x p (List.mem_append_left _ hp)) r a.less
  | _, _, .sq h => .sq (h.imp (fun z => ⟨fun p hp => z.1 p (List.mem_append_left _ hp), z.2⟩) id)
  | _, _, .ins x r a => .ins (fun p hp => x p (List.mem_append_left _ hp)) r a.less
  | _, _, .dct x r a => .dct (fun p hp => x p (List.mem_append_left _ hp)) r a.less
theorem DqAll.less {O : Ow} {H : Hp} {q : Addr} {o : HO} : ∀ {vs : List V} {ds : List D}, DqAll (O ++ [(q, .hold o)]) H vs ds → DqAll O H vs ds
  | _, _, .nil => .nil
  | _, _, .cons a b => .cons a.less b.less
end
mutual
theorem Dq.rehold {O : Ow} {H : Hp} {q : Addr} {o o' : HO} : ∀ {v : V} {d : D}, Dq (O ++ [(q, .hold o)]) H v d → Dq (O ++ [(q, .hold o')]) H v d
  | _, _, .non => .non
  | _, _, .bl b => .bl b
  | _, _, .int i => .int i
  | _, _, .str x => .str x
  | _, _, .lst x r a => .lst (out_rehold x) r a.rehold
  | _, _, .tup x r a => .tup (out_rehold x) r a.rehold
  | _, _, .src h => .src (by
      rcases List.mem_append.mp h with h | h
      · exact List.mem_append_left _ h
      · simp at h)
  | _, _, .fn f => .fn f
  | _, _, .exn x r a => .exn (out_rehold x) r a.rehold
  | _, _, .sq h => .sq (h.imp (fun z => ⟨out_rehold z.1, z.2⟩) id)
  | _, _, .ins x r a => .ins (out_rehold x) r a.rehold
  | _, _, .dct x r a => .dct (out_rehold x) r a.rehold
theorem DqAll.rehold {O : Ow} {H : Hp} {q : Addr} {o o' : HO} : ∀ {vs : List V} {ds : List D}, DqAll (O ++ [(q, .hold o)]) H vs ds → DqAll (O ++ [(q, .hold o')]) H vs ds
  | _, _, .nil => .nil
  | _, _, .cons a b => .cons a.rehold b.rehold
theorem out_rehold {O : Ow} {q a : Addr} {o o' : HO} (x : Out (O ++ [(q, .hold o)]) a) : Out (O ++ [(q, .hold o')]) a := fun p hp => by
  rcases List.mem_append.mp hp with h | h
  · exact x p (List.mem_append_left _ h)
  · have e : p = (q, .hold o') := by simpa using h
    subst e
    exact x (q, .hold o) (by simp)
end
theorem DqAll.length {O : Ow} {H : Hp} : ∀ {vs : List V} {ds : List D}, DqAll O H vs ds → vs.length = ds.length
  | _, _, .nil => rfl
  | _, _, .cons _ b => by rw [List.length_cons, List.length_cons, b.length]
theorem DqAll.get {O : Ow} {H : Hp} : ∀ {vs : List V} {ds : List D} {i : Nat} {d : D}, DqAll O H vs ds → ds[i]? = some d → ∃ v, vs[i]? = some v ∧ Dq O H v d
  | _, _, _, _, .nil, h => by simp at h
  | _, _, 0, _, .cons a _, h => by simp at h; subst h; exact ⟨_, rfl, a⟩
  | _, _, i + 1, _, .cons _ b, h => by
    obtain ⟨v, e, q⟩ := b.get (i := i) (by simpa using h)
    exact ⟨v, by simpa using e, q⟩
theorem DqAll.append {O : Ow} {H : Hp} : ∀ {vs ws : List V} {ds es : List D}, DqAll O H vs ds → DqAll O H ws es → DqAll O H (vs ++ ws) (ds ++ es)
  | _, _, _, _, .nil, h => h
  | _, _, _, _, .cons a b, h => .cons a (b.append h)
theorem DqAll.take {O : Ow} {H : Hp} : ∀ {vs : List V} {ds : List D} (n : Nat), DqAll O H vs ds → DqAll O H (vs.take n) (ds.take n)
  | _, _, 0, _ => by simpa using DqAll.nil
  | _, _, _ + 1, .nil => .nil
  | _, _, n + 1, .cons a b => .cons a (b.take n)
theorem DqAll.drop {O : Ow} {H : Hp} : ∀ {vs : List V} {ds : List D} (n : Nat), DqAll O H vs ds → DqAll O H (vs.drop n) (ds.drop n)
  | _, _, 0, h => by simpa using h
  | _, _, _ + 1, .nil => .nil
  | _, _, n + 1, .cons _ b => b.drop n

/-! ### the readings -/
abbrev Sl := List (Option D)
structure SlD (O : Ow) (H : Hp) (σ : L2.St) (ds : Sl) : Prop where
  len : ds.length = σ.length
  val : ∀ (i : Nat) (d : D), ds[i]? = some (some d) → ∃ v, σ[i]? = some (some v) ∧ Dq O H v d
theorem SlD.mono {O : Ow} {H H' : Hp} {σ : L2.St} {ds : Sl} (h : SlD O H σ ds) (e : Ext O H H') : SlD O H' σ ds :=
  ⟨h.len, fun i d hd => by
    obtain ⟨v, a, b⟩ := h.val i d hd
    exact ⟨v, a, b.mono e⟩⟩
theorem SlD.set {O : Ow} {H : Hp} {σ : L2.St} {ds : Sl} (h : SlD O H σ ds) (i : Nat) {v : V} {d : D} (q : Dq O H v d) : SlD O H (σ.set i (some v)) (ds.set i (some d)) :=
  ⟨by rw [List.length_set, List.length_set, h.len], fun j e he => by
    by_cases hj : i = j
    · subst hj
      by_cases hi : i < ds.length
      · rw [List.getElem?_set_self hi] at he
        cases he
        exact ⟨v, by rw [List.getElem?_set_self (by rw [← h.len]; exact hi)], q⟩
      · rw [List.getElem?_eq_none (by rw [List.length_set]; omega)] at he
        cases he
    · rw [List.getElem?_set_ne hj] at he
      obtain ⟨u, a, b⟩ := h.val j e he
      exact ⟨u, by rw [List.getElem?_set_ne hj]; exact a, b⟩⟩
theorem SlD.keep {O : Ow} {H H' : Hp} {σ : L2.St} {ds : Sl} (h : SlD O H σ ds) (e : ∀ b o, Out O b → H b = some o → NT o → H' b = some o) : SlD O H' σ ds :=
  ⟨h.len, fun i d hd => by
    obtain ⟨v, a, b⟩ := h.val i d hd
    exact ⟨v, a, b.keep e⟩⟩
theorem SlD.more {O : Ow} {H : Hp} {σ : L2.St} {ds : Sl} {q : Addr} {w : Own} (h : SlD O H σ ds) (n : Fresh H q) : SlD (O ++ [(q, w)]) H σ ds :=
  ⟨h.len, fun i d hd => by
    obtain ⟨v, a, b⟩ := h.val i d hd
    exact ⟨v, a, b.more n⟩⟩
abbrev WE := Sl → (D → Prop) → Prop
abbrev WT := Sl → (Bool → Prop) → Prop
abbrev WA := Sl → (List D → Prop) → Prop
abbrev WS := Sl → (Sl → Prop) → (D → Prop) → (Addr → D → Prop) → Prop
def tW (W : WE) : TE := fun σ H Q => ∃ (O : Ow) (ds : Sl) (P : D → Prop), SlD O H σ ds ∧ OwnAll O H ∧ W ds P ∧ ∀ d, P d → ∀ v H', Ext O H H' → Dq O H' v d → Q v H'
def tTW (W : WT) : TT := fun σ H Q => ∃ (O : Ow) (ds : Sl) (P : Bool → Prop), SlD O H σ ds ∧ OwnAll O H ∧ W ds P ∧ ∀ b, P b → ∀ H', Ext O H H' → Q b H'
def tAW (W : WA) : TA := fun σ H Q => ∃ (O : Ow) (ds : Sl) (P : List D → Prop), SlD O H σ ds ∧ OwnAll O H ∧ W ds P ∧ ∀ es, P es → ∀ vs H', Ext O H H' → DqAll O H' vs es → Q vs H'
def tSW (E : XK) (G : WS) : TS := fun D σ H => ∃ (O : Ow) (ds : Sl) (N : Sl → Prop) (R : DL.D → Prop) (Z : Addr → DL.D → Prop), SlD O H σ ds ∧ OwnAll O H ∧ G ds N R Z ∧
  (∀ ds', N ds' → ∀ σ' H', Ext O H H' → SlD O H' σ' ds' → D.nx σ' H') ∧ (∀ d, R d → ∀ v H', Ext O H H' → Dq O H' v d → D.rt v H') ∧
  ∀ C d, Z C d → ∀ dx v H', Ext O H H' → Out O dx → H' dx = some (.xd [("told", v)]) → Dq O H' v d → E (.ref C) (some dx) H'
section
variable {X : Cx}
theorem PE.weak {e : Expr} {t t' : TE} (h : PE X e t) (k : ∀ σ H Q, t' σ H Q → t σ H Q) : PE X e t' := ⟨fun pins s σ H Q I q => h.run pins s σ H Q I (k σ H Q q)⟩
theorem PT.weak {e : Expr} {t t' : TT} (h : PT X e t) (k : ∀ σ H Q, t' σ H Q → t σ H Q) : PT X e t' := ⟨fun pins s σ H Q I q => h.run pins s σ H Q I (k σ H Q q)⟩
theorem PW.weak {e : Expr} {t t' : TT} (h : PW X e t) (k : ∀ σ H Q, t' σ H Q → t σ H Q) : PW X e t' := ⟨fun wh pins s σ H Q I q => h.run wh pins s σ H Q I (k σ H Q q)⟩
theorem PA.weak {es : List Expr} {t t' : TA} (h : PA X es t) (k : ∀ σ H Q, t' σ H Q → t σ H Q) : PA X es t' := ⟨fun pos pins s σ H Q I q => h.run pos pins s σ H Q I (k σ H Q q)⟩
theorem PS.weak {st : Stmt} {t t' : TS} (h : PS X st t) (k : ∀ D σ H, t' D σ H → t D σ H) : PS X st t' := ⟨fun pins s σ H D I q => h.run pins s σ H D I (k D σ H q)⟩
theorem PSs.weak {st : List Stmt} {t t' : TS} (h : PSs X st t) (k : ∀ D σ H, t' D σ H → t D σ H) : PSs X st t' := ⟨fun pins s σ H D I q => h.run pins s σ H D I (k D σ H q)⟩

/-! ### expressions -/
def wVar (i : Nat) : WE := fun ds P => ∃ d, ds[i]? = some (some d) ∧ P d
theorem we_var {e : Expr} {i : Nat} (h : PE X e (tVar i)) : PE X e (tW (wVar i)) := PE.weak h fun σ H Q ⟨O, ds, P, hS, hO, ⟨d, hd, p⟩, k⟩ => by
  obtain ⟨v, a, b⟩ := hS.val i d hd
  exact ⟨v, a, k d p v H (.refl _ _) b⟩
/-- a flat constant -/
def flat : V → Option D
  | .non => some .non
  | .bl b => some (.bl b)
  | .int i => some (.int i)
  | .str x => some (.str x)
  | _ => none
theorem flat_dq {O : Ow} {H : Hp} {v : V} {d : D} (h : flat v = some d) : Dq O H v d := by
  cases v <;> simp [flat] at h <;> subst h
  · exact .non
  · exact .bl _
  · exact .int _
  · exact .str _
def wC (d : D) : WE := fun _ P => P d
theorem we_c {e : Expr} {v : V} {d : D} (h : PE X e (tC v)) (hf : flat v = some d := by rfl) : PE X e (tW (wC d)) := PE.weak h fun σ H Q ⟨O, ds, P, hS, hO, p, k⟩ => k d p v H (.refl _ _) (flat_dq hf)
theorem we_fn {e : Expr} {f : Addr} (h : PE X e (tC (.ref f))) : PE X e (tW (wC (.fn f))) := PE.weak h fun σ H Q ⟨O, ds, P, hS, hO, p, k⟩ => k _ p _ H (.refl _ _) (.fn f)
/-- a two-place operation on data -/
abbrev DOp := D → D → (D → Prop) → Prop
def rD (f : DOp) : R2 := fun x y H Q => ∃ (O : Ow) (dx dy : D) (P : D → Prop), Dq O H x dx ∧ Dq O H y dy ∧ OwnAll O H ∧ f dx dy P ∧ ∀ d, P d → ∀ v H', Ext O H H' → Dq O H' v d → Q v H'
def wOp (f : DOp) (Wa Wb : WE) : WE := fun ds P => Wa ds fun x => Wb ds fun y => f x y P
theorem op_red {f : DOp} {Wa Wb : WE} {σ : L2.St} {H : Hp} {Q : VK} (h : tW (wOp f Wa Wb) σ H Q) : tOp (rD f) (tW Wa) (tW Wb) σ H Q := by
  obtain ⟨O, ds, P, hS, hO, hW, k⟩ := h
  exact ⟨O, ds, _, hS, hO, hW, fun dx hx v H1 e1 q1 => ⟨O, ds, _, hS.mono e1, hO.mono e1, hx, fun dy hy u H2 e2 q2 =>
    ⟨O, dx, dy, P, q1.mono e2, q2, (hO.mono e1).mono e2, hy, fun d hd w H3 e3 q3 => k d hd w H3 ((e1.trans e2).trans e3) q3⟩⟩⟩
variable {a b c : Expr} {Wa Wb Wc : WE} {pos : Pos}
theorem we_op {op : Operator} {f : DOp} (ho : OpR X (binaryOp op) (rD f)) (ha : PE X a (tW Wa)) (hb : PE X b (tW Wb)) : PE X (.BinOp a op b pos) (tW (wOp f Wa Wb)) :=
  PE.weak (pe_op ho ha hb) fun _ _ _ h => op_red h
theorem we_cmp {op : CmpOp} {f : DOp} (ho : OpR X (compareOp op) (rD f)) (ha : PE X a (tW Wa)) (hb : PE X b (tW Wb)) (hm : behindInMarks op b = false) : PE X (.Compare a [op] [b] pos) (tW (wOp f Wa Wb)) :=
  PE.weak (pe_cmpR ho ha hb hm) fun _ _ _ h => op_red h
/-- a value as a test -/
def wTest (W : WE) : WT := fun ds P => W ds fun d => ∃ b, d = .bl b ∧ P b
theorem test_red {W : WE} {σ : L2.St} {H : Hp} {Q : Bool → Hp → Prop} (h : tTW (wTest W) σ H Q) : tW W σ H fun x H' => ∃ k, x = .bl k ∧ Q k H' := by
  obtain ⟨O, ds, P, hS, hO, hW, k⟩ := h
  refine ⟨O, ds, _, hS, hO, hW, fun d hd v H' e q => ?_⟩
  obtain ⟨b, rfl, p⟩ := hd
  cases q
  exact ⟨b, rfl, k b p H' e⟩
theorem wt_val {e : Expr} {W : WE} (h : PE X e (tW W)) (he : ∀ whole, isTrue e X.env whole = (do let v ← whole; standAt e.pos; holding [v] (truthy v)) := by intro _; rfl) : PT X e (tTW (wTest W)) :=
  PT.weak (pt_val h he) fun _ _ _ h => test_red h
theorem wt_cmp {op : CmpOp} {f : DOp} (ho : OpR X (compareOp op) (rD f)) (ha : PE X a (tW Wa)) (hb : PE X b (tW Wb)) (hm : behindInMarks op b = false) : PT X (.Compare a [op] [b] pos) (tTW (wTest (wOp f Wa Wb))) :=
  PT.weak (pt_cmpR ho ha hb hm) fun σ H Q h => op_red (Q := fun x H' => ∃ k, x = .bl k ∧ Q k H') (test_red h)
def wChain (f g : DOp) (Wa Wb Wc : WE) : WE := fun ds P => Wa ds fun x => Wb ds fun y => f x y fun z => ∃ k, z = .bl k ∧ if k = true then Wc ds fun w => g y w P else P (.bl false)
theorem chain_red {f g : DOp} {σ : L2.St} {H : Hp} {Q : VK} (h : tW (wChain f g Wa Wb Wc) σ H Q) : tChain (rD f) (rD g) (tW Wa) (tW Wb) (tW Wc) σ H Q := by
  obtain ⟨O, ds, P, hS, hO, hW, k⟩ := h
  refine ⟨O, ds, _, hS, hO, hW, fun dx hx v H1 e1 q1 => ⟨O, ds, _, hS.mono e1, hO.mono e1, hx, fun dy hy u H2 e2 q2 => ⟨O, dx, dy, _, q1.mono e2, q2, (hO.mono e1).mono e2, hy, fun z hz w H3 e3 q3 => ?_⟩⟩⟩
  obtain ⟨b, rfl, hz⟩ := hz
  cases q3
  refine ⟨b, rfl, ?_⟩
  cases b with
  | false =>
    rw [if_neg Bool.false_ne_true] at hz ⊢
    exact k _ hz _ _ ((e1.trans e2).trans e3) (.bl false)
  | true =>
    rw [if_pos rfl] at hz ⊢
    exact ⟨O, ds, _, hS.mono ((e1.trans e2).trans e3), ((hO.mono e1).mono e2).mono e3, hz, fun dw hw u' H4 e4 q4 =>
      ⟨O, dy, dw, P, q2.mono (e3.trans e4), q4, (((hO.mono e1).mono e2).mono e3).mono e4, hw, fun d hd w' H5 e5 q5 => k d hd w' H5 ((((e1.trans e2).trans e3).trans e4).trans e5) q5⟩⟩
theorem we_chain {op op' : CmpOp} {f g : DOp} (ho : OpR X (compareOp op) (rD f)) (ho' : OpR X (compareOp op') (rD g)) (ha : PE X a (tW Wa)) (hb : PE X b (tW Wb)) (hc : PE X c (tW Wc))
    (hm : lastMarks [op, op'] [b, c] = false := by with_unfolding_all rfl) : PE X (.Compare a [op, op'] [b, c] pos) (tW (wChain f g Wa Wb Wc)) :=
  PE.weak (pe_chain ho ho' ha hb hc hm) fun _ _ _ h => chain_red h
theorem wt_chain {op op' : CmpOp} {f g : DOp} (ho : OpR X (compareOp op) (rD f)) (ho' : OpR X (compareOp op') (rD g)) (ha : PE X a (tW Wa)) (hb : PE X b (tW Wb)) (hc : PE X c (tW Wc))
    (hm : lastMarks [op, op'] [b, c] = false := by with_unfolding_all rfl) : PT X (.Compare a [op, op'] [b, c] pos) (tTW (wTest (wChain f g Wa Wb Wc))) :=
  PT.weak (pt_chain ho ho' ha hb hc hm) fun σ H Q h => chain_red (Q := fun x H' => ∃ k, x = .bl k ∧ Q k H') (test_red h)
/-- and, or of bools, as values -/
def wAnd (Wa Wb : WE) : WE := fun ds P => Wa ds fun x => ∃ k, x = .bl k ∧ if k = true then Wb ds P else P (.bl false)
def wOr (Wa Wb : WE) : WE := fun ds P => Wa ds fun x => ∃ k, x = .bl k ∧ if k = true then P (.bl true) else Wb ds P
def wNot (Wa : WE) : WE := fun ds P => Wa ds fun x => ∃ k, x = .bl k ∧ P (.bl !k)
variable {rest : List Expr}
theorem we_and (ha : PE X a (tW Wa)) (hb : PE X (.BoolOp .And (b :: rest) pos) (tW Wb)) : PE X (.BoolOp .And (a :: b :: rest) pos) (tW (wAnd Wa Wb)) :=
  PE.weak (pe_and ha hb) fun σ H Q ⟨O, ds, P, hS, hO, hW, k⟩ => ⟨O, ds, _, hS, hO, hW, fun dx hx v H1 e1 q1 => by
    obtain ⟨b, rfl, hx⟩ := hx
    cases q1
    refine ⟨b, rfl, ?_⟩
    cases b with
    | false =>
      rw [if_neg Bool.false_ne_true] at hx ⊢
      exact k _ hx _ _ e1 (.bl false)
    | true =>
      rw [if_pos rfl] at hx ⊢
      exact ⟨O, ds, P, hS.mono e1, hO.mono e1, hx, fun d hd w H2 e2 q2 => k d hd w H2 (e1.trans e2) q2⟩⟩
theorem we_or (ha : PE X a (tW Wa)) (hb : PE X (.BoolOp .Or (b :: rest) pos) (tW Wb)) : PE X (.BoolOp .Or (a :: b :: rest) pos) (tW (wOr Wa Wb)) :=
  PE.weak (pe_or ha hb) fun σ H Q ⟨O, ds, P, hS, hO, hW, k⟩ => ⟨O, ds, _, hS, hO, hW, fun dx hx v H1 e1 q1 => by
    obtain ⟨b, rfl, hx⟩ := hx
    cases q1
    refine ⟨b, rfl, ?_⟩
    cases b with
    | true =>
      rw [if_pos rfl] at hx ⊢
      exact k _ hx _ _ e1 (.bl true)
    | false =>
      rw [if_neg Bool.false_ne_true] at hx ⊢
      exact ⟨O, ds, P, hS.mono e1, hO.mono e1, hx, fun d hd w H2 e2 q2 => k d hd w H2 (e1.trans e2) q2⟩⟩
theorem we_not (ha : PE X a (tW Wa)) : PE X (.UnaryOp .Not a pos) (tW (wNot Wa)) :=
  PE.weak (pe_not ha) fun σ H Q ⟨O, ds, P, hS, hO, hW, k⟩ => ⟨O, ds, _, hS, hO, hW, fun dx hx v H1 e1 q1 => by
    obtain ⟨b, rfl, hx⟩ := hx
    cases q1
    exact ⟨b, rfl, k _ hx _ _ e1 (.bl _)⟩⟩
theorem we_one {op} (ha : PE X a (tW Wa)) : PE X (.BoolOp op [a] pos) (tW Wa) := pe_one ha
/-- .. as tests -/
def wtAnd (T U : WT) : WT := fun ds P => T ds fun b => if b = true then U ds P else P false
def wtOr (T U : WT) : WT := fun ds P => T ds fun b => if b = true then P true else U ds P
def wtNot (T : WT) : WT := fun ds P => T ds fun b => P !b
variable {Ta Tb : WT}
theorem ww_and (ha : PT X a (tTW Ta)) (hb : PW X (.BoolOp .And (b :: rest) pos) (tTW Tb)) : PW X (.BoolOp .And (a :: b :: rest) pos) (tTW (wtAnd Ta Tb)) :=
  PW.weak (pw_and ha hb) fun σ H Q ⟨O, ds, P, hS, hO, hW, k⟩ => ⟨O, ds, _, hS, hO, hW, fun b hb H1 e1 => by
    cases b with
    | false =>
      rw [if_neg Bool.false_ne_true] at hb ⊢
      exact k _ hb _ e1
    | true =>
      rw [if_pos rfl] at hb ⊢
      exact ⟨O, ds, P, hS.mono e1, hO.mono e1, hb, fun d hd H2 e2 => k d hd H2 (e1.trans e2)⟩⟩
theorem ww_or (ha : PT X a (tTW Ta)) (hb : PW X (.BoolOp .Or (b :: rest) pos) (tTW Tb)) : PW X (.BoolOp .Or (a :: b :: rest) pos) (tTW (wtOr Ta Tb)) :=
  PW.weak (pw_or ha hb) fun σ H Q ⟨O, ds, P, hS, hO, hW, k⟩ => ⟨O, ds, _, hS, hO, hW, fun b hb H1 e1 => by
    cases b with
    | true =>
      rw [if_pos rfl] at hb ⊢
      exact k _ hb _ e1
    | false =>
      rw [if_neg Bool.false_ne_true] at hb ⊢
      exact ⟨O, ds, P, hS.mono e1, hO.mono e1, hb, fun d hd H2 e2 => k d hd H2 (e1.trans e2)⟩⟩
theorem wt_not (ha : PT X a (tTW Ta)) : PT X (.UnaryOp .Not a pos) (tTW (wtNot Ta)) :=
  PT.weak (pt_not ha) fun σ H Q ⟨O, ds, P, hS, hO, hW, k⟩ => ⟨O, ds, _, hS, hO, hW, fun b hb H1 e1 => k _ hb _ e1⟩
def wIf (T : WT) (Wa Wb : WE) : WE := fun ds P => T ds fun b => if b = true then Wa ds P else Wb ds P
theorem we_if (hc : PT X c (tTW Ta)) (ha : PE X a (tW Wa)) (hb : PE X b (tW Wb)) : PE X (.IfExp c a b pos) (tW (wIf Ta Wa Wb)) :=
  PE.weak (pe_ifExp hc ha hb) fun σ H Q ⟨O, ds, P, hS, hO, hW, k⟩ => ⟨O, ds, _, hS, hO, hW, fun b hb H1 e1 => by
    cases b with
    | true =>
      rw [if_pos rfl] at hb ⊢
      exact ⟨O, ds, P, hS.mono e1, hO.mono e1, hb, fun d hd w H2 e2 q2 => k d hd w H2 (e1.trans e2) q2⟩
    | false =>
      rw [if_neg Bool.false_ne_true] at hb ⊢
      exact ⟨O, ds, P, hS.mono e1, hO.mono e1, hb, fun d hd w H2 e2 q2 => k d hd w H2 (e1.trans e2) q2⟩⟩

/-! ### arguments, displays, calls -/
def waNil : WA := fun _ P => P []
def waCons (W : WE) (A : WA) : WA := fun ds P => W ds fun d => A ds fun es => P (d :: es)
theorem wa_nil : PA X [] (tAW waNil) := PA.weak pa_nil fun σ H Q ⟨O, ds, P, hS, hO, hW, k⟩ => k [] hW [] H (.refl _ _) .nil
theorem wa_cons {e : Expr} {es : List Expr} {W : WE} {A : WA} (ha : PE X e (tW W)) (hr : PA X es (tAW A)) (hs : starEach (e :: es) X.env = (false, eval e X.env) :: starEach es X.env := by rfl) : PA X (e :: es) (tAW (waCons W A)) :=
  PA.weak (pa_cons ha hr hs) fun σ H Q ⟨O, ds, P, hS, hO, hW, k⟩ => ⟨O, ds, _, hS, hO, hW, fun dx hx v H1 e1 q1 => ⟨O, ds, _, hS.mono e1, hO.mono e1, hx, fun es he vs H2 e2 q2 => k _ he _ H2 (e1.trans e2) (.cons (q1.mono e2) q2)⟩⟩
def wTup (A : WA) : WE := fun ds P => A ds fun es => es.length ≤ sizeLine ∧ P (.tup es)
def wLst (A : WA) : WE := fun ds P => A ds fun es => es.length ≤ sizeLine ∧ P (.lst es)
theorem we_tup {x1} {es : List Expr} {A : WA} (h : PA X es (tAW A)) : PE X (.Tuple es x1 pos) (tW (wTup A)) :=
  PE.weak (pe_tup h) fun σ H Q ⟨O, ds, P, hS, hO, hW, k⟩ => ⟨O, ds, _, hS, hO, hW, fun es ⟨hl, he⟩ vs H1 e1 q1 => ⟨by rw [q1.length]; exact hl, fun p hp =>
    k _ he _ _ (e1.trans (.new hp)) (.tup ((hO.mono e1).out hp) (.of upd_same) (q1.mono (.new hp)))⟩⟩
theorem we_lst {es : List Expr} {A : WA} (h : PA X es (tAW A)) : PE X (.List es pos) (tW (wLst A)) :=
  PE.weak (pe_lst h) fun σ H Q ⟨O, ds, P, hS, hO, hW, k⟩ => ⟨O, ds, _, hS, hO, hW, fun es ⟨hl, he⟩ vs H1 e1 q1 => ⟨by rw [q1.length]; exact hl, fun p hp =>
    k _ he _ _ (e1.trans (.new hp)) (.lst ((hO.mono e1).out hp) upd_same (q1.mono (.new hp)))⟩⟩
/-- a built-in's call by data -/
abbrev DFn := List D → (D → Prop) → Prop
def rF (f : DFn) : List V → Hp → VK → Prop := fun xs H Q => ∃ (O : Ow) (es : List D) (P : D → Prop), DqAll O H xs es ∧ OwnAll O H ∧ f es P ∧ ∀ d, P d → ∀ v H', Ext O H H' → Dq O H' v d → Q v H'
def wCall (f : DFn) (A : WA) : WE := fun ds P => A ds fun es => f es P
theorem call_red {f : DFn} {A : WA} {σ : L2.St} {H : Hp} {Q : VK} (h : tW (wCall f A) σ H Q) : tAW A σ H fun vs H1 => rF f vs H1 Q := by
  obtain ⟨O, ds, P, hS, hO, hW, k⟩ := h
  exact ⟨O, ds, _, hS, hO, hW, fun es he vs H1 e1 q1 => ⟨O, es, P, q1, hO.mono e1, he, fun d hd v H2 e2 q2 => k d hd v H2 (e1.trans e2) q2⟩⟩
/-- the promise of a def: what is known of its arguments and its answer by data; Z: what it may raise, by class and told -/
abbrev DSp := List D → (D → Prop) → (Addr → D → Prop) → Prop
def spD (f : DSp) : Sp := fun vs H Q E => ∃ (O : Ow) (es : List D) (P : D → Prop) (Z : Addr → D → Prop), DqAll O H vs es ∧ OwnAll O H ∧ f es P Z ∧ (∀ d, P d → ∀ v H', Ext O H H' → Dq O H' v d → Q v H') ∧
  ∀ C d, Z C d → ∀ dx v H', Ext O H H' → Out O dx → H' dx = some (.xd [("told", v)]) → Dq O H' v d → E (.ref C) (some dx) H'
/-- .. that may not raise here -/
def quiet (f : DSp) : DFn := fun es P => f es P fun _ _ => False
theorem fn_red {f : DSp} {A : WA} {σ : L2.St} {H : Hp} {Q : VK} {E : XK} (h : tW (wCall (quiet f) A) σ H Q) : tCall (spD f) [] E (tAW A) σ H Q := by
  obtain ⟨O, ds, P, hS, hO, hW, k⟩ := h
  refine ⟨O, ds, _, hS, hO, hW, fun es he vs H1 e1 q1 => ?_⟩
  show spD f (vs ++ []) H1 Q E
  rw [List.append_nil]
  exact ⟨O, es, P, fun _ _ => False, q1, hO.mono e1, he, fun d hd v H2 e2 q2 => k d hd v H2 (e1.trans e2) q2, fun _ _ z => z.elim⟩
end
end DL

set_option maxHeartbeats 2000000
namespace DL
open PySem PySem.Spec PyProof.Rows L2
variable [TabCtx]
/-! ### statements -/
def gNext : WS := fun ds N _ _ => N ds
def gSeq (G1 G2 : WS) : WS := fun ds N R Z => G1 ds (fun ds' => G2 ds' N R Z) R Z
def gRet (W : WE) : WS := fun ds _ R _ => W ds R
def gSet (i : Nat) (W : WE) : WS := fun ds N _ _ => W ds fun d => N (ds.set i (some d))
def gIf (T : WT) (G1 G2 : WS) : WS := fun ds N R Z => T ds fun b => if b = true then G1 ds N R Z else G2 ds N R Z
def gDrop (W : WE) : WS := fun ds N _ _ => W ds fun _ => N ds
section
variable {X : Cx} {E : XK} {st : Stmt} {rest : List Stmt} {G1 G2 : WS} {e : Expr} {W : WE} {pos : Pos}
theorem wss_nil : PSs X [] (tSW E gNext) := PSs.weak pss_nil fun D σ H ⟨O, ds, N, R, Z, hS, hO, hG, hN, hR, hZ⟩ => hN ds hG σ H (.refl _ _) hS
theorem wss_cons (h1 : PS X st (tSW E G1)) (h2 : PSs X rest (tSW E G2)) : PSs X (st :: rest) (tSW E (gSeq G1 G2)) :=
  PSs.weak (pss_cons h1 h2) fun D σ H ⟨O, ds, N, R, Z, hS, hO, hG, hN, hR, hZ⟩ => ⟨O, ds, _, R, Z, hS, hO, hG, fun ds' hd σ' H' e1 s1 =>
    ⟨O, ds', N, R, Z, s1, hO.mono e1, hd, fun d2 h2 σ2 H2 e2 s2 => hN d2 h2 σ2 H2 (e1.trans e2) s2, fun d h v H2 e2 q2 => hR d h v H2 (e1.trans e2) q2, fun C d h dx v H2 e2 q2 => hZ C d h dx v H2 (e1.trans e2) q2⟩, hR, hZ⟩
theorem wss_one (h1 : PS X st (tSW E G1)) : PSs X [st] (tSW E G1) := pss_one h1
theorem ws_ret (he : PE X e (tW W)) : PS X (.Return (some e) pos) (tSW E (gRet W)) := PS.weak (ps_ret he) fun D σ H ⟨O, ds, N, R, Z, hS, hO, hG, hN, hR, hZ⟩ => ⟨O, ds, R, hS, hO, hG, hR⟩
theorem ws_drop (he : PE X e (tW W)) (hs : swapsWith e none pos.line X.env = pure false := by rfl) : PS X (.Expr e pos) (tSW E (gDrop W)) :=
  PS.weak (ps_expr he hs) fun D σ H ⟨O, ds, N, R, Z, hS, hO, hG, hN, hR, hZ⟩ => ⟨O, ds, _, hS, hO, hG, fun d hd v H1 e1 _ => hN ds hd σ H1 e1 (hS.mono e1)⟩
theorem ws_set {i : Nat} {x : Str} {pos' : Pos} (hN : X.N.Nodup) (hi : X.N[i]? = some x) (hx : Loc X.env.scope x) (he : PE X e (tW W)) (hs : swapsWith e (some (.Name x pos')) pos.line X.env = pure false := by rfl)
    (hf : X.fn x = true ∨ X.env.scope.names.lookup x = some .local := by first | exact .inl rfl | exact .inr rfl | assumption) : PS X (.Assign [.Name x pos'] e pos) (tSW E (gSet i W)) :=
  PS.weak (ps_set hN hi hx he hs hf) fun D σ H ⟨O, ds, N, R, Z, hS, hO, hG, hN, hR, hZ⟩ => ⟨O, ds, _, hS, hO, hG, fun d hd v H1 e1 q1 => hN _ hd _ H1 e1 ((hS.mono e1).set i q1)⟩
theorem ws_if {c : Expr} {a b : List Stmt} {T : WT} (hc : PT X c (tTW T)) (ha : PSs X a (tSW E G1)) (hb : PSs X b (tSW E G2)) : PS X (.If c a b pos) (tSW E (gIf T G1 G2)) :=
  PS.weak (ps_if hc ha hb) fun D σ H ⟨O, ds, N, R, Z, hS, hO, hG, hN, hR, hZ⟩ => ⟨O, ds, _, hS, hO, hG, fun b hb H1 e1 => by
    cases b with
    | true =>
      rw [if_pos rfl] at hb ⊢
      exact ⟨O, ds, N, R, Z, hS.mono e1, hO.mono e1, hb, fun d2 h2 σ2 H2 e2 s2 => hN d2 h2 σ2 H2 (e1.trans e2) s2, fun d h v H2 e2 q2 => hR d h v H2 (e1.trans e2) q2, fun C d h dx v H2 e2 q2 => hZ C d h dx v H2 (e1.trans e2) q2⟩
    | false =>
      rw [if_neg Bool.false_ne_true] at hb ⊢
      exact ⟨O, ds, N, R, Z, hS.mono e1, hO.mono e1, hb, fun d2 h2 σ2 H2 e2 s2 => hN d2 h2 σ2 H2 (e1.trans e2) s2, fun d h v H2 e2 q2 => hR d h v H2 (e1.trans e2) q2, fun C d h dx v H2 e2 q2 => hZ C d h dx v H2 (e1.trans e2) q2⟩⟩
/-! ### raising an own error that keeps what it is told -/
/-- MomentError.__init__(self, told): self.told = told -/
def spTold (K : PySem.W.Frag) : Sp := fun vs H Q _ => ∃ (a C : Addr) (v : V), vs = [.ref a, v] ∧ OexC K C ∧ PySem.W.findIn K (.ref C) "told" = some none ∧ H a = some (exo a C none) ∧ ∀ dx, H dx = none → dx ≠ a → Q .non (upd (upd H dx (exd dx [("told", v)])) a (exo a C (some dx)))
theorem ok_told {P : Program} {w : World} {K : PySem.W.Frag} {mg : Str → Option Value} {base : Heap} {st : Stmt} {q : Str} {f : Addr} {fd : FuncData} {p1 p2 p3 p4 : Pos} (F : Fun K "__init__" q st f fd) (S : FnScope ["self", "told"] ["self", "told"] (defScope st))
    (hb : defBody st = [.Assign [.Attribute (.Name "self" p1) "told" p2] (.Name "told" p3) p4]) (v0 : (defScope st).names.lookup ("self" : Str) = some NameKind.local) (v1 : (defScope st).names.lookup ("told" : Str) = some NameKind.local) : FnOk P w K mg base CX0 1 f fd ["self", "told"] (spTold K) := by
  refine F.ok S (fun vs H Q E ⟨a, C, v, e, _⟩ => by rw [e]; rfl) (fun cdv A outer s H vs Q E hr ⟨a, C, v, e, T, no, ha, k⟩ => ?_)
  subst e
  rw [hb]
  exact ⟨_, pss_one (ps_ost (pv 0 rfl (.inl v0)) (pv 1 rfl (.inl v1))), _, rfl, _, rfl, a, C, rfl, T, no, .inl ⟨ha, fun dx n1 n2 => k dx n1 n2⟩⟩
/-- raise C(e) -/
def gRaise (C : Addr) (W : WE) : WS := fun ds _ _ Z => W ds fun d => Z C d
theorem ws_raise {CX : CXT} {x : Str} {C fI : Addr} {k : Nat} {fd : FuncData} {ps : List Str} {p p' : Pos} (hc : X.calm = true) (tk : Takes X (fun cls d _ H => E cls d H)) (T : OexC X.K C)
    (iC : PySem.W.findIn X.K (.ref C) "__init__" = some (some (.ref fI))) (tI : PySem.W.typeIn X.K (.ref fI) = some (.type "function"))
    (hno : PySem.W.findIn X.K (.ref C) "told" = some none) (F1 : FnOk X.prog X.w X.K X.mg X.base CX k fI fd ps (spTold X.K)) (hr : Room (k + 1) X.A) (hb : Binds X.K fd ps []) (hx : Passes CX X (fun _ _ _ => False)) (hg : Gl X x) (hm : X.mg x = some (.ref C)) (ha : PE X e (tW W))
    (hdb : (x == ("__debug__" : Str)) = false := by decide) (hs : starEach [e] X.env = (false, eval e X.env) :: starEach [] X.env := by rfl) (hpl : (backTo p' (starEach [] X.env)).any (·.1) = false := by rfl) :
    PS X (.Raise (some (.Call (.Name x p) [e] [] p')) none pos) (tSW E (gRaise C W)) :=
  PS.weak (ps_raise hc tk (pmk_oex T iC tI F1 hr hb .nil hx hg hm (pa_cons ha pa_nil hs) hdb hs hpl)) fun D σ H ⟨O, ds, N, R, Z, hS, hO, hG, hN, hR, hZ⟩ =>
    ⟨O, ds, _, hS, hO, hG, fun d hd v H1 e1 q1 => ⟨by show 1 ≤ 1000; decide, fun a na => ⟨a, C, v, rfl, T, hno, upd_same, fun dx ndx hne => by
      have n1 : H1 dx = none := by
        rw [upd_ne hne] at ndx
        exact ndx
      refine ⟨rfl, dx, [("told", v)], upd_same, by rw [upd_ne hne, upd_same], n1, ?_⟩
      have e2 : Ext O H1 (upd (del (upd (upd (upd H1 a (exo a C none)) dx (exd dx [("told", v)])) a (exo a C (some dx))) a) dx (.xd [("told", v)])) := .same fun b o hb => by
        have h1 : b ≠ dx := ne_of_none hb n1
        have h2 : b ≠ a := ne_of_none hb na
        rw [upd_ne h1, del_ne h2, upd_ne h2, upd_ne h1, upd_ne h2]
        exact hb
      exact hZ C d hd dx v _ (e1.trans e2) ((hO.mono e1).out n1) upd_same (q1.mono e2)⟩⟩⟩
end
/-! ### a def's promise by its body -/
def startD (N : List Str) (es : List D) : Sl := es.map some ++ List.replicate (N.length - es.length) none
theorem start_sl {O : Ow} {H : Hp} {N : List Str} {vs : List V} {es : List D} (h : DqAll O H vs es) : SlD O H (L2.start N vs) (startD N es) := by
  refine ⟨by unfold L2.start startD; simp [h.length], fun i d hd => ?_⟩
  unfold startD at hd
  unfold L2.start
  by_cases hi : i < es.length
  · rw [List.getElem?_append_left (by simpa using hi)] at hd
    rw [List.getElem?_map] at hd
    cases he : es[i]? with
    | none => rw [he] at hd; cases hd
    | some d' =>
      rw [he] at hd
      cases hd
      obtain ⟨v, a, b⟩ := h.get he
      exact ⟨v, by rw [List.getElem?_append_left (by rw [List.length_map, h.length]; exact hi), List.getElem?_map, a]; rfl, b⟩
  · rw [List.getElem?_append_right (by simpa using hi), List.getElem?_replicate] at hd
    split at hd <;> cases hd
section
variable {P : Program} {w : World} {K : PySem.W.Frag} {mg : Str → Option Value} {base : Heap}
/-- a def that raises nothing -/
theorem fn_ok {x qual : Str} {st : Stmt} {f : Addr} {fd : FuncData} {N ps : List Str} {k : Nat} {g : DFn} (F : Fun K x qual st f fd) (S : FnScope N ps (defScope st)) (len : ∀ es P, g es P → es.length = ps.length)
    (hbody : ∀ (cdv : Value) (A : Around) (outer : List Env) (s : Shared) (H : Hp) (E : XK), Room k (A.deeper (envOfC qual (defScope st) s.heap.objs.size f cdv)) →
      ∃ G, PSs (cxOf CX0 P w K mg base N qual (defScope st) f cdv A outer s H E).nox (defBody st) (tSW (fun _ _ _ => False) G) ∧ ∀ es P, g es P → G (startD N es) (fun _ => P .non) P fun _ _ => False) :
    FnOk P w K mg base CX0 (k + 1) f fd ps (spD fun es P _ => g es P) := by
  refine F.ok S (fun vs H Q E ⟨O, es, P, Z, hq, hO, hg, _⟩ => by rw [hq.length]; exact len _ _ hg) (fun cdv A outer s H vs Q E hr ⟨O, es, P, Z, hq, hO, hg, hP, hZ⟩ => ?_)
  obtain ⟨G, h1, h2⟩ := hbody cdv A outer s H E hr
  exact ⟨_, h1, O, startD N es, _, P, _, start_sl hq, hO, h2 es P hg, fun ds' hd σ' H' e1 _ => hP _ hd _ H' e1 .non, hP, fun _ _ z => z.elim⟩
/-- a def that may raise -/
theorem fn_okX {x qual : Str} {st : Stmt} {f : Addr} {fd : FuncData} {N ps : List Str} {k : Nat} {g : DSp} (F : Fun K x qual st f fd) (S : FnScope N ps (defScope st)) (len : ∀ es P Z, g es P Z → es.length = ps.length)
    (hbody : ∀ (cdv : Value) (A : Around) (outer : List Env) (s : Shared) (H : Hp) (E : XK), Room k (A.deeper (envOfC qual (defScope st) s.heap.objs.size f cdv)) →
      ∃ G, PSs (cxOf (L2.CX P w) P w K mg base N qual (defScope st) f cdv A outer s H E) (defBody st) (tSW E G) ∧ ∀ es P Z, g es P Z → G (startD N es) (fun _ => P .non) P Z) :
    FnOk P w K mg base (L2.CX P w) (k + 1) f fd ps (spD g) := by
  refine F.okX S (fun vs H Q E ⟨O, es, P, Z, hq, hO, hg, _⟩ => by rw [hq.length]; exact len _ _ _ hg) (fun cdv A outer s H vs Q E hr ⟨O, es, P, Z, hq, hO, hg, hP, hZ⟩ => ?_)
  obtain ⟨G, h1, h2⟩ := hbody cdv A outer s H E hr
  exact ⟨_, h1, O, startD N es, _, P, Z, start_sl hq, hO, h2 es P Z hg, fun ds' hd σ' H' e1 _ => hP _ hd _ H' e1 .non, hP, hZ⟩
end
/-! ### calls -/
section
variable {X : Cx} {k : Nat} {f : Addr} {fd : FuncData} {ps : List Str} {x : Str} {p pos : Pos} {e : Expr} {es : List Expr} {A : WA}
/-- a def that raises nothing -/
theorem we_call {g : DFn} (F : FnOk X.prog X.w X.K X.mg X.base CX0 k f fd ps (spD fun es P _ => g es P)) (hr : Room k X.A) (hg : Gl X x) (hm : X.mg x = some (.ref f)) (hk : PySem.W.keepIn X.K (.ref f) = true) (hb : Binds X.K fd ps [])
    (ha : PA X (e :: es) (tAW A)) (hdb : (x == ("__debug__" : Str)) = false := by decide) (he : starEach (e :: es) X.env = (false, eval e X.env) :: starEach es X.env := by rfl) (hpl : (backTo pos (starEach es X.env)).any (·.1) = false := by rfl) :
    PE X (.Call (.Name x p) (e :: es) [] pos) (tW (wCall g A)) := PE.weak (pe_call F hr hg hm hk hb .nil pass0 ha hdb he hpl) fun σ H Q h => fn_red (f := fun es P _ => g es P) h
/-- a def that may raise, but not here -/
theorem we_callX {g : DSp} (F : FnOk X.prog X.w X.K X.mg X.base (L2.CX X.prog X.w) k f fd ps (spD g)) (hr : Room k X.A) (hg : Gl X x) (hm : X.mg x = some (.ref f)) (hk : PySem.W.keepIn X.K (.ref f) = true) (hb : Binds X.K fd ps [])
    (ha : PA X (e :: es) (tAW A)) (hdb : (x == ("__debug__" : Str)) = false := by decide) (he : starEach (e :: es) X.env = (false, eval e X.env) :: starEach es X.env := by rfl) (hpl : (backTo pos (starEach es X.env)).any (·.1) = false := by rfl) :
    PE X (.Call (.Name x p) (e :: es) [] pos) (tW (wCall (quiet g) A)) := PE.weak (pe_call F hr hg hm hk hb .nil passL ha hdb he hpl) fun σ H Q h => fn_red h
/-- a built-in -/
theorem we_callB {id : String} {g : DFn} (hc : CallR X (.builtin id) (rF g)) (hg : Gl X x) (hm : X.mg x = none) (hv : bootBuiltins x = some (.builtin id)) (ha : PA X (e :: es) (tAW A)) (hn : x ≠ "__name__" := by decide) (hdb : (x == ("__debug__" : Str)) = false := by decide)
    (he : starEach (e :: es) X.env = (false, eval e X.env) :: starEach es X.env := by rfl) (hpl : (backTo pos (starEach es X.env)).any (·.1) = false := by rfl) : PE X (.Call (.Name x p) (e :: es) [] pos) (tW (wCall g A)) :=
  PE.weak (pe_callB hc hg hm hv ha hn hdb he hpl) fun σ H Q h => call_red h
theorem we_callTy {T : String} {g : DFn} (hc : CallR X (.type T) (rF g)) (hg : Gl X x) (hm : X.mg x = none) (hv : bootBuiltins x = some (.type T)) (ha : PA X (e :: es) (tAW A)) (hn : x ≠ "__name__" := by decide) (hdb : (x == ("__debug__" : Str)) = false := by decide)
    (he : starEach (e :: es) X.env = (false, eval e X.env) :: starEach es X.env := by rfl) (hpl : (backTo pos (starEach es X.env)).any (·.1) = false := by rfl) : PE X (.Call (.Name x p) (e :: es) [] pos) (tW (wCall g A)) :=
  PE.weak (pe_callTy hc hg hm hv ha hn hdb he hpl) fun σ H Q h => call_red h
end
end DL

set_option maxHeartbeats 2000000
namespace DL
open PySem PySem.Spec PyProof.Rows L2
variable [TabCtx]
/-! ### data as the library's data -/
mutual
def D.py : D → PyData
  | .non => .none
  | .bl b => .bool b
  | .int i => .int i
  | .str x => .str x
  | .lst xs => .list (D.pys xs)
  | .tup xs => .tuple (D.pys xs)
  | .src _ => .none
  | .fn _ => .none
  | .exn _ _ _ => .none
  | .sq _ _ => .none
  | .ins _ _ _ => .none
  | .dct _ _ => .none
def D.pys : List D → List PyData
  | [] => []
  | d :: ds => d.py :: D.pys ds
end
mutual
/-- nothing but data -/
def D.pl : D → Bool
  | .src _ => false
  | .fn _ => false
  | .exn _ _ _ => false
  | .sq _ _ => false
  | .ins _ _ _ => false
  | .dct _ _ => false
  | .lst xs => D.pls xs
  | .tup xs => D.pls xs
  | _ => true
def D.pls : List D → Bool
  | [] => true
  | d :: ds => d.pl && D.pls ds
end
mutual
theorem Dq.dp {O : Ow} {K : PySem.W.Frag} {H : Hp} : ∀ {v : V} {d : D}, Dq O H v d → d.pl = true → Dp K H v d.py
  | _, _, .non, _ => by unfold D.py; exact .non
  | _, _, .bl b, _ => by unfold D.py; exact .bl b
  | _, _, .int i, _ => by unfold D.py; exact .int i
  | _, _, .str x, _ => by unfold D.py; exact .str x
  | _, _, .lst x r a, h => by
    unfold D.py
    unfold D.pl at h
    exact .lst (.inl (.inl r)) (a.dp h)
  | _, _, .tup x r a, h => by
    unfold D.py
    unfold D.pl at h
    exact .tup (.inl r) (a.dp h)
  | _, _, .src _, h => by
    unfold D.pl at h
    cases h
  | _, _, .fn _, h => by
    unfold D.pl at h
    cases h
  | _, _, .exn _ _ _, h => by
    unfold D.pl at h
    cases h
  | _, _, .sq _, h => by
    unfold D.pl at h
    cases h
  | _, _, .ins _ _ _, h => by
    unfold D.pl at h
    cases h
  | _, _, .dct _ _ _, h => by
    unfold D.pl at h
    cases h
theorem DqAll.dp {O : Ow} {K : PySem.W.Frag} {H : Hp} : ∀ {vs : List V} {ds : List D}, DqAll O H vs ds → D.pls ds = true → DpAll K H vs (D.pys ds)
  | _, _, .nil, _ => by unfold D.pys; exact .nil
  | _, _, .cons a b, h => by
    unfold D.pls at h
    unfold D.pys
    obtain ⟨h1, h2⟩ := Bool.and_eq_true_iff.mp h
    exact .cons (a.dp h1) (b.dp h2)
end
/-- may be asked by == -/
def okEq (d : D) : Prop := d.pl = true ∧ SeqAt.shaped d.py = true
def eqD (x y : D) : Bool := PyData.eqv x.py y.py

/-! ### operations -/
def dAdd : DOp := fun x y P => match x, y with
  | .int i, .int j => P (.int (i + j))
  | .str a, .str b => a.length + b.length ≤ sizeLine ∧ P (.str (a ++ b))
  | .tup xs, .tup ys => xs.length + ys.length ≤ sizeLine ∧ P (.tup (xs ++ ys))
  | .lst xs, .lst ys => xs.length + ys.length ≤ sizeLine ∧ P (.lst (xs ++ ys))
  | _, _ => False
def dSub : DOp := fun x y P => match x, y with
  | .int i, .int j => P (.int (i - j))
  | _, _ => False
def dMul : DOp := fun x y P => match x, y with
  | .int i, .int j => CMulW i j ∧ P (.int (i * j))
  | _, _ => False
def dMod : DOp := fun x y P => match x, y with
  | .int i, .int j => 0 < j ∧ P (.int (i % j))
  | _, _ => False
def dFdiv : DOp := fun x y P => match x, y with
  | .int i, .int j => CDivW i j ∧ P (.int (i / j))
  | _, _ => False
def dPow : DOp := fun x y P => match x, y with
  | .int i, .int j => CPow i j ∧ P (.int (i ^ j.toNat))
  | _, _ => False
def dEq : DOp := fun x y P => match x, y with
  | .str a, .str b => P (.bl (decide (a = b)))
  | .int i, .int j => P (.bl (decide (i = j)))
  | .bl a, .bl b => P (.bl (decide (a = b)))
  | x, y => okEq x ∧ okEq y ∧ P (.bl (eqD x y))
def dNe : DOp := fun x y P => match x, y with
  | .str a, .str b => P (.bl (!decide (a = b)))
  | .int i, .int j => P (.bl (!decide (i = j)))
  | .bl a, .bl b => P (.bl (!decide (a = b)))
  | x, y => okEq x ∧ okEq y ∧ P (.bl (!eqD x y))
def dLe : DOp := fun x y P => match x, y with
  | .int i, .int j => P (.bl (decide (i ≤ j)))
  | .str a, .str b => P (.bl (!decide (b.cps.toList < a.cps.toList)))
  | _, _ => False
def dLt : DOp := fun x y P => match x, y with
  | .int i, .int j => P (.bl (decide (i < j)))
  | .str a, .str b => P (.bl (decide (a.cps.toList < b.cps.toList)))
  | _, _ => False
def dGe : DOp := fun x y P => match x, y with
  | .int i, .int j => P (.bl (decide (j ≤ i)))
  | _, _ => False
def dGt : DOp := fun x y P => match x, y with
  | .int i, .int j => P (.bl (decide (j < i)))
  | _, _ => False
/-- is True, is False -/
def dIsB : DOp := fun x y P => match x, y with
  | .bl a, .bl b => P (.bl (decide (a = b)))
  | _, _ => False
/-- the texts of a list of data -/
def strsOf : List D → Option (List Str)
  | [] => some []
  | .str x :: ds => (strsOf ds).map (x :: ·)
  | _ :: _ => none
def boolsOf : List D → Option (List Bool)
  | [] => some []
  | .bl x :: ds => (boolsOf ds).map (x :: ·)
  | _ :: _ => none
theorem strsOf_vs {O : Ow} {H : Hp} : ∀ {ds : List D} {xs : List Str} {vs : List V}, strsOf ds = some xs → DqAll O H vs ds → vs = xs.map V.str
  | [], xs, vs, h, q => by
    cases q
    cases h
    rfl
  | d :: ds, xs, vs, h, q => by
    cases q with
    | cons a b =>
      cases d <;> simp [strsOf] at h
      obtain ⟨ys, h1, rfl⟩ := h
      cases a
      rw [strsOf_vs h1 b]
      rfl
theorem boolsOf_vs {O : Ow} {H : Hp} : ∀ {ds : List D} {xs : List Bool} {vs : List V}, boolsOf ds = some xs → DqAll O H vs ds → vs = xs.map V.bl
  | [], xs, vs, h, q => by
    cases q
    cases h
    rfl
  | d :: ds, xs, vs, h, q => by
    cases q with
    | cons a b =>
      cases d <;> simp [boolsOf] at h
      obtain ⟨ys, h1, rfl⟩ := h
      cases a
      rw [boolsOf_vs h1 b]
      rfl
/-- in: a text in a list or tuple of texts, a sign in a text, a bool in a list of bools -/
def dIn : DOp := fun x y P => match x, y with
  | .str a, .lst ds => ∃ xs, strsOf ds = some xs ∧ P (.bl (decide (a ∈ xs)))
  | .str a, .tup ds => ∃ xs, strsOf ds = some xs ∧ P (.bl (decide (a ∈ xs)))
  | .bl a, .lst ds => ∃ xs, boolsOf ds = some xs ∧ P (.bl (decide (a ∈ xs)))
  | .str a, .str z => ∃ c, a = ⟨#[c]⟩ ∧ P (.bl (decide (c ∈ z.cps.toList)))
  | _, _ => False
theorem inV_str (a : Str) (xs : List Str) : inV (.str a) (xs.map V.str) = decide (a ∈ xs) := by
  unfold inV
  induction xs with
  | nil => rfl
  | cons y ys ih =>
    rw [List.map_cons, List.any_cons, ih]
    show ((y == a) || decide (a ∈ ys)) = decide (a ∈ y :: ys)
    by_cases h : y = a
    · subst h
      simp
    · have h1 : (y == a) = false := beq_eq_false_iff_ne.mpr h
      have h2 : a ≠ y := fun e => h e.symm
      simp [h1, h2]
theorem inV_bl (a : Bool) (xs : List Bool) : inV (.bl a) (xs.map V.bl) = decide (a ∈ xs) := by
  unfold inV
  induction xs with
  | nil => rfl
  | cons y ys ih =>
    rw [List.map_cons, List.any_cons, ih]
    show ((y == a) || decide (a ∈ ys)) = decide (a ∈ y :: ys)
    cases y <;> cases a <;> simp
theorem flat_strs (xs : List Str) : (xs.map V.str).all flatV = true := by
  induction xs with
  | nil => rfl
  | cons y ys ih => rw [List.map_cons, List.all_cons, ih]; rfl
theorem flat_bls (xs : List Bool) : (xs.map V.bl).all flatV = true := by
  induction xs with
  | nil => rfl
  | cons y ys ih => rw [List.map_cons, List.all_cons, ih]; rfl
section
variable {X : Cx}
theorem op_dAdd : OpR X (binaryOp .Add) (rD dAdd) := by
  intro pins s σ H x y v u Q I rx ry ⟨O, dx, dy, P, qx, qy, hO, hg, k⟩
  unfold dAdd at hg
  split at hg
  · cases qx; cases qy
    exact op_add pins s σ H _ _ v u Q I rx ry ⟨_, _, rfl, rfl, k _ hg _ H (.refl _ _) (.int _)⟩
  · cases qx; cases qy
    exact op_add_str pins s σ H _ _ v u Q I rx ry ⟨_, _, rfl, rfl, hg.1, k _ hg.2 _ H (.refl _ _) (.str _)⟩
  · cases qx with
    | tup x1 r1 a1 =>
      cases qy with
      | tup x2 r2 a2 =>
        have z1 := a1.length
        have z2 := a2.length
        refine op_catA pins s σ H _ _ v u Q I rx ry ⟨_, _, _, _, rfl, rfl, .inl r1, .inl r2, by rw [z1, z2]; exact hg.1, fun e => ?_, fun _ e => ?_, fun _ _ p hp => ?_⟩
        · subst e
          cases a1
          exact k _ hg.2 _ H (.refl _ _) (.tup x2 r2 a2)
        · subst e
          cases a2
          refine k _ hg.2 _ H (.refl _ _) ?_
          rw [List.append_nil]
          exact .tup x1 r1 a1
        · exact k _ hg.2 _ _ (.new hp) (.tup (hO.out hp) (.of upd_same) ((a1.append a2).mono (.new hp)))
  · cases qx with
    | lst x1 r1 a1 =>
      cases qy with
      | lst x2 r2 a2 =>
        have z1 := a1.length
        have z2 := a2.length
        exact op_cat pins s σ H _ _ v u Q I rx ry ⟨_, _, _, _, rfl, rfl, r1, r2, by rw [z1, z2]; exact hg.1, fun p hp => k _ hg.2 _ _ (.new hp) (.lst (hO.out hp) upd_same ((a1.append a2).mono (.new hp)))⟩
  · exact hg.elim
theorem op_dSub : OpR X (binaryOp .Sub) (rD dSub) := by
  intro pins s σ H x y v u Q I rx ry ⟨O, dx, dy, P, qx, qy, hO, hg, k⟩
  unfold dSub at hg
  split at hg
  · cases qx; cases qy
    exact op_sub pins s σ H _ _ v u Q I rx ry ⟨_, _, rfl, rfl, k _ hg _ H (.refl _ _) (.int _)⟩
  · exact hg.elim
theorem op_dMul : OpR X (binaryOp .Mult) (rD dMul) := by
  intro pins s σ H x y v u Q I rx ry ⟨O, dx, dy, P, qx, qy, hO, hg, k⟩
  unfold dMul at hg
  split at hg
  · cases qx; cases qy
    exact op_mulW pins s σ H _ _ v u Q I rx ry ⟨_, _, rfl, rfl, hg.1, k _ hg.2 _ H (.refl _ _) (.int _)⟩
  · exact hg.elim
theorem op_dMod : OpR X (binaryOp .Mod) (rD dMod) := by
  intro pins s σ H x y v u Q I rx ry ⟨O, dx, dy, P, qx, qy, hO, hg, k⟩
  unfold dMod at hg
  split at hg
  · cases qx; cases qy
    exact op_mod pins s σ H _ _ v u Q I rx ry ⟨_, _, rfl, rfl, hg.1, k _ hg.2 _ H (.refl _ _) (.int _)⟩
  · exact hg.elim
theorem op_dFdiv : OpR X (binaryOp .FloorDiv) (rD dFdiv) := by
  intro pins s σ H x y v u Q I rx ry ⟨O, dx, dy, P, qx, qy, hO, hg, k⟩
  unfold dFdiv at hg
  split at hg
  · cases qx; cases qy
    exact op_fdivW pins s σ H _ _ v u Q I rx ry ⟨_, _, rfl, rfl, hg.1, k _ hg.2 _ H (.refl _ _) (.int _)⟩
  · exact hg.elim
theorem op_dPow : OpR X (binaryOp .Pow) (rD dPow) := by
  intro pins s σ H x y v u Q I rx ry ⟨O, dx, dy, P, qx, qy, hO, hg, k⟩
  unfold dPow at hg
  split at hg
  · cases qx; cases qy
    exact op_pow pins s σ H _ _ v u Q I rx ry ⟨_, _, rfl, rfl, hg.1, k _ hg.2 _ H (.refl _ _) (.int _)⟩
  · exact hg.elim
theorem op_dEq (hu : X.A.units + 64 < cLine) : OpR X (compareOp .Eq) (rD dEq) := by
  intro pins s σ H x y v u Q I rx ry ⟨O, dx, dy, P, qx, qy, hO, hg, k⟩
  unfold dEq at hg
  split at hg
  · cases qx; cases qy
    exact op_eq pins s σ H _ _ v u Q I rx ry ⟨rfl, k _ (by simpa using hg) _ H (.refl _ _) (.bl _)⟩
  · cases qx; cases qy
    exact op_eq pins s σ H _ _ v u Q I rx ry ⟨rfl, k _ (by simpa using hg) _ H (.refl _ _) (.bl _)⟩
  · cases qx; cases qy
    exact op_eq pins s σ H _ _ v u Q I rx ry ⟨rfl, k _ (by simpa using hg) _ H (.refl _ _) (.bl _)⟩
  · obtain ⟨h1, h2, hg⟩ := hg
    exact op_eqD hu pins s σ H _ _ v u Q I rx ry ⟨_, _, qx.dp h1.1, qy.dp h2.1, h1.2, h2.2, k _ hg _ H (.refl _ _) (.bl _)⟩
theorem op_dNe (hu : X.A.units + 64 < cLine) : OpR X (compareOp .NotEq) (rD dNe) := by
  intro pins s σ H x y v u Q I rx ry ⟨O, dx, dy, P, qx, qy, hO, hg, k⟩
  unfold dNe at hg
  split at hg
  · cases qx; cases qy
    exact op_ne pins s σ H _ _ v u Q I rx ry ⟨rfl, k _ (by simpa using hg) _ H (.refl _ _) (.bl _)⟩
  · cases qx; cases qy
    exact op_ne pins s σ H _ _ v u Q I rx ry ⟨rfl, k _ (by simpa using hg) _ H (.refl _ _) (.bl _)⟩
  · cases qx; cases qy
    exact op_ne pins s σ H _ _ v u Q I rx ry ⟨rfl, k _ (by simpa using hg) _ H (.refl _ _) (.bl _)⟩
  · obtain ⟨h1, h2, hg⟩ := hg
    exact op_neD hu pins s σ H _ _ v u Q I rx ry ⟨_, _, qx.dp h1.1, qy.dp h2.1, h1.2, h2.2, k _ hg _ H (.refl _ _) (.bl _)⟩
theorem op_dLe : OpR X (compareOp .LtE) (rD dLe) := by
  intro pins s σ H x y v u Q I rx ry ⟨O, dx, dy, P, qx, qy, hO, hg, k⟩
  unfold dLe at hg
  split at hg
  · cases qx; cases qy
    exact op_le pins s σ H _ _ v u Q I rx ry ⟨_, _, rfl, rfl, k _ hg _ H (.refl _ _) (.bl _)⟩
  · cases qx; cases qy
    exact op_le_str pins s σ H _ _ v u Q I rx ry ⟨_, _, rfl, rfl, k _ hg _ H (.refl _ _) (.bl _)⟩
  · exact hg.elim
theorem op_dLt : OpR X (compareOp .Lt) (rD dLt) := by
  intro pins s σ H x y v u Q I rx ry ⟨O, dx, dy, P, qx, qy, hO, hg, k⟩
  unfold dLt at hg
  split at hg
  · cases qx; cases qy
    exact op_lt pins s σ H _ _ v u Q I rx ry ⟨_, _, rfl, rfl, k _ hg _ H (.refl _ _) (.bl _)⟩
  · cases qx; cases qy
    exact op_lt_str pins s σ H _ _ v u Q I rx ry ⟨_, _, rfl, rfl, k _ hg _ H (.refl _ _) (.bl _)⟩
  · exact hg.elim
theorem op_dGe : OpR X (compareOp .GtE) (rD dGe) := by
  intro pins s σ H x y v u Q I rx ry ⟨O, dx, dy, P, qx, qy, hO, hg, k⟩
  unfold dGe at hg
  split at hg
  · cases qx; cases qy
    exact op_ge pins s σ H _ _ v u Q I rx ry ⟨_, _, rfl, rfl, k _ hg _ H (.refl _ _) (.bl _)⟩
  · exact hg.elim
theorem op_dGt : OpR X (compareOp .Gt) (rD dGt) := by
  intro pins s σ H x y v u Q I rx ry ⟨O, dx, dy, P, qx, qy, hO, hg, k⟩
  unfold dGt at hg
  split at hg
  · cases qx; cases qy
    exact op_gt pins s σ H _ _ v u Q I rx ry ⟨_, _, rfl, rfl, k _ hg _ H (.refl _ _) (.bl _)⟩
  · exact hg.elim
theorem op_dIsB : OpR X (compareOp .Is) (rD dIsB) := by
  intro pins s σ H x y v u Q I rx ry ⟨O, dx, dy, P, qx, qy, hO, hg, k⟩
  unfold dIsB at hg
  split at hg
  · cases qx; cases qy
    exact op_isBl pins s σ H _ _ v u Q I rx ry ⟨_, _, rfl, rfl, k _ hg _ H (.refl _ _) (.bl _)⟩
  · exact hg.elim
theorem op_dIn : OpR X (compareOp .In) (rD dIn) := by
  intro pins s σ H x y v u Q I rx ry ⟨O, dx, dy, P, qx, qy, hO, hg, k⟩
  unfold dIn at hg
  split at hg
  · obtain ⟨xs, h1, hg⟩ := hg
    cases qx
    cases qy with
    | lst x2 r2 a2 =>
      have e := strsOf_vs h1 a2
      subst e
      exact op_in_seq pins s σ H _ _ v u Q I rx ry ⟨_, _, rfl, .inl (.of r2), rfl, flat_strs _, k _ hg _ H (.refl _ _) (by rw [if_neg Bool.false_ne_true, inV_str]; exact .bl _)⟩
  · obtain ⟨xs, h1, hg⟩ := hg
    cases qx
    cases qy with
    | tup x2 r2 a2 =>
      have e := strsOf_vs h1 a2
      subst e
      exact op_in_seq pins s σ H _ _ v u Q I rx ry ⟨_, _, rfl, .inr (.inl r2), rfl, flat_strs _, k _ hg _ H (.refl _ _) (by rw [if_neg Bool.false_ne_true, inV_str]; exact .bl _)⟩
  · obtain ⟨xs, h1, hg⟩ := hg
    cases qx
    cases qy with
    | lst x2 r2 a2 =>
      have e := boolsOf_vs h1 a2
      subst e
      exact op_in_seq pins s σ H _ _ v u Q I rx ry ⟨_, _, rfl, .inl (.of r2), rfl, flat_bls _, k _ hg _ H (.refl _ _) (by rw [if_neg Bool.false_ne_true, inV_bl]; exact .bl _)⟩
  · obtain ⟨c, h1, hg⟩ := hg
    subst h1
    cases qx
    cases qy
    exact op_in_sign pins s σ H _ _ v u Q I rx ry ⟨_, _, rfl, rfl, k _ hg _ H (.refl _ _) (.bl _)⟩
  · exact hg.elim
end
end DL

set_option maxHeartbeats 2000000
namespace DL
open PySem PySem.Spec PyProof.Rows L2
variable [TabCtx]
/-! ### what is gone through -/
def DWalk (O : Ow) (J : It) (xs : List D) (H : Hp) : Prop := ∃ G : Hp → Prop, Walk J xs.length G (fun i H1 x H' => H' = H1 ∧ ∃ d, xs[i]? = some d ∧ Dq O H x d) ∧
  ∀ H2, (∀ b o, Out O b → H b = some o → NT o → H2 b = some o) → G H2
abbrev WI := Sl → (List D → Prop) → Prop
def tIW (W : WI) : TI := fun σ H R => ∃ (O : Ow) (ds : Sl) (P : List D → Prop), SlD O H σ ds ∧ OwnAll O H ∧ W ds P ∧ ∀ xs, P xs → ∀ J H', Ext O H H' → DWalk O J xs H' → R J H'
def wiTup (W : WE) : WI := fun ds P => W ds fun d => ∃ xs, d = .tup xs ∧ P xs
def wiLst (W : WE) : WI := fun ds P => W ds fun d => ∃ xs, d = .lst xs ∧ P xs
def signs (z : Str) : List D := z.cps.toList.map fun c => .str ⟨#[c]⟩
def wiStr (W : WE) : WI := fun ds P => W ds fun d => ∃ z, d = .str z ∧ P (signs z)
def intsD (n : Nat) : List D := (List.range n).map fun (k : Nat) => D.int (k : Int)
def wiRange (W : WE) : WI := fun ds P => W ds fun d => ∃ j : Int, d = .int j ∧ -(2 ^ 62) ≤ j ∧ j < 2 ^ 62 ∧ P (intsD j.toNat)
section
variable {X : Cx} {tg e : Expr} {W : WE}
theorem PI.weak {tg e : Expr} {t t' : TI} (h : PI X tg e t) (k : ∀ σ H Q, t' σ H Q → t σ H Q) : PI X tg e t' := ⟨fun pins s σ H Q I q => h.run pins s σ H Q I (k σ H Q q)⟩
theorem wi_tup (h : PE X e (tW W)) : PI X tg e (tIW (wiTup W)) := PI.weak (pi_tup h) fun σ H R ⟨O, ds, P, hS, hO, hW, k⟩ => ⟨O, ds, _, hS, hO, hW, fun d hd v H1 e1 q1 => by
  obtain ⟨xs, rfl, hp⟩ := hd
  cases q1 with
  | @tup a vs _ x r q =>
    refine ⟨a, rfl, ⟨vs, .inl r⟩, k xs hp _ H1 e1 ⟨fun H => SqT X.K H a vs, ?_, fun H2 k2 => .inl (rd_keep k2 x r)⟩⟩
    rw [← q.length]
    exact walk_tup.mono (fun H z => z) fun i H x H' hi z y => by
      obtain ⟨y1, y2⟩ := y
      have hi' : i < xs.length := by rw [← q.length]; exact hi
      obtain ⟨v, e1, q1⟩ := q.get (i := i) (d := xs[i]) (by simp [hi'])
      rw [y2] at e1
      cases e1
      exact ⟨y1, _, by simp [hi'], q1⟩⟩
theorem wi_lst (h : PE X e (tW W)) : PI X tg e (tIW (wiLst W)) := PI.weak (pi_list h) fun σ H R ⟨O, ds, P, hS, hO, hW, k⟩ => ⟨O, ds, _, hS, hO, hW, fun d hd v H1 e1 q1 => by
  obtain ⟨xs, rfl, hp⟩ := hd
  cases q1 with
  | @lst a vs _ x r q =>
    refine ⟨a, rfl, ⟨vs, .of r⟩, k xs hp _ H1 e1 ⟨fun H => SqL X.K H a vs, ?_, fun H2 k2 => .of (k2 _ _ x r (by intro ps z; cases z))⟩⟩
    rw [← q.length]
    exact walk_list.mono (fun H z => z) fun i H x H' hi z y => by
      obtain ⟨y1, y2⟩ := y
      have hi' : i < xs.length := by rw [← q.length]; exact hi
      obtain ⟨v, e1, q1⟩ := q.get (i := i) (d := xs[i]) (by simp [hi'])
      rw [y2] at e1
      cases e1
      exact ⟨y1, _, by simp [hi'], q1⟩⟩
theorem wi_str (h : PE X e (tW W)) : PI X tg e (tIW (wiStr W)) := PI.weak (pi_str h) fun σ H R ⟨O, ds, P, hS, hO, hW, k⟩ => ⟨O, ds, _, hS, hO, hW, fun d hd v H1 e1 q1 => by
  obtain ⟨z, rfl, hp⟩ := hd
  cases q1
  refine ⟨z, rfl, k _ hp _ H1 e1 ⟨fun _ => True, ?_, fun _ _ => trivial⟩⟩
  have hl : (signs z).length = z.cps.size := by simp [signs]
  rw [hl]
  exact walk_str.mono (fun _ z => z) fun i H x H' hi _ y => by
    obtain ⟨y1, c, y2, rfl⟩ := y
    refine ⟨y1, .str ⟨#[c]⟩, ?_, .str _⟩
    unfold signs
    rw [List.getElem?_map, Array.getElem?_toList, y2]
    rfl⟩
theorem wi_range {p pos : Pos} (hg : Gl X "range") (hm : X.mg "range" = none) (h : PE X e (tW W)) (hs : starEach [e] X.env = [(false, eval e X.env)] := by rfl) : PI X tg (.Call (.Name "range" p) [e] [] pos) (tIW (wiRange W)) :=
  PI.weak (pi_range1 hg hm (pa_cons h pa_nil hs) hs) fun σ H R ⟨O, ds, P, hS, hO, hW, k⟩ => ⟨O, ds, _, hS, hO, hW, fun d hd v H1 e1 q1 => by
    obtain ⟨j, rfl, h1, h2, hp⟩ := hd
    cases q1
    refine ⟨j, rfl, h1, h2, k _ hp _ H1 e1 ⟨fun _ => True, ?_, fun _ _ => trivial⟩⟩
    have hl : (intsD j.toNat).length = j.toNat := by simp [intsD]
    rw [hl]
    exact walk_range.mono (fun _ z => z) fun i H x H' hi _ y => by
      obtain ⟨y1, rfl⟩ := y
      refine ⟨y1, .int (i : Int), ?_, ?_⟩
      · simp [intsD, hi]
      · show Dq O H1 (V.int (0 + (i : Int))) (D.int (i : Int))
        rw [Int.zero_add]
        exact .int _⟩
end
/-! ### a list comprehension -/
def wEach (f : D → (D → Prop) → Prop) : List D → (List D → Prop) → Prop
  | [], P => P []
  | x :: xs, P => f x fun y => wEach f xs fun ys => P (y :: ys)
def wLc (i : Nat) (Wi : WI) (We : WE) : WE := fun ds P => Wi ds fun xs => xs.length < sizeLine ∧ wEach (fun x P' => We (ds.set i (some x)) P') xs fun ys => P (.lst ys)
theorem lc_red {i : Nat} {Wi : WI} {We : WE} {σ : L2.St} {H : Hp} {Q : VK} (h : tW (wLc i Wi We) σ H Q) : tLc (tIW Wi) (gName i) tYes (tW We) [i] σ H Q := by
  obtain ⟨O, ds, P, hS, hO, hW, k⟩ := h
  refine ⟨O, ds, _, hS, hO, hW, fun xs ⟨hl, hx⟩ J H1 e1 ⟨G, w, hG⟩ D nD => ?_⟩
  have S1 := hS.mono e1
  have O1 := hO.mono e1
  have oD : Out O D := O1.out nD
  refine lc_it w (fun j H2 => ∃ acc dacc, H2 D = some (.lst acc) ∧ acc.length = j ∧ DqAll (O ++ [(D, .hold (.lst acc))]) H2 acc dacc ∧ OwnAll O H2 ∧ (∀ b o, Out O b → H1 b = some o → NT o → H2 b = some o) ∧
    wEach (fun x P' => We (ds.set i (some x)) P') (xs.drop j) (fun ys => P (.lst (dacc ++ ys)))) ?h0 ?hG ?hs ?hd
  case h0 => exact ⟨[], [], upd_same, rfl, .nil, O1.mono (.new nD), (Ext.new nD).keep, by simpa using hx⟩
  case hG =>
    rintro j H2 _ ⟨_, _, _, _, _, _, kp, _⟩
    exact hG H2 kp
  case hs =>
    rintro j x H2 H' hj ⟨acc, dacc, hD, ha, hq, hO2, kp, hw⟩ ⟨rfl, d, hd, qd⟩
    have ed : xs.drop j = d :: xs.drop (j + 1) := by
      obtain ⟨h1, h2⟩ := List.getElem?_eq_some_iff.mp hd
      rw [List.drop_eq_getElem_cons h1, h2]
    rw [ed] at hw
    refine ⟨?_, ?_⟩
    · show (((σ.set i none).set i (some x)).set i none) = σ.set i none
      rw [List.set_set, List.set_set]
    · unfold tYes
      dsimp only
      simp only [if_true]
      have neD : ∀ p ∈ O, p.1 ≠ D := fun p hp => (oD p hp).symm
      have kp' : ∀ b o, Out (O ++ [(D, .hold (.lst acc))]) b → H1 b = some o → NT o → H' b = some o := fun b o hb h t => kp b o (fun p hp => hb p (List.mem_append_left _ hp)) h t
      have qd' : Dq (O ++ [(D, .hold (.lst acc))]) H' x d := (qd.more (fresh_none nD)).keep kp'
      have S2 : SlD (O ++ [(D, .hold (.lst acc))]) H' ((σ.set i none).set i (some x)) (ds.set i (some d)) := by
        rw [List.set_set]
        exact ((S1.more (fresh_none nD)).keep kp').set i qd'
      refine ⟨O ++ [(D, .hold (.lst acc))], ds.set i (some d), fun dy => wEach (fun x P' => We (ds.set i (some x)) P') (xs.drop (j + 1)) (fun ys => P (.lst (dacc ++ dy :: ys))), S2, ?_, hw, fun dy hy v H4 e4 q4 => ?_⟩
      · refine ⟨fun p hp => ?_, fun p hp q hq e => ?_, hO2.tabs.hold⟩
        · rcases List.mem_append.mp hp with h | h
          · exact hO2.here p h
          · have e : p = (D, .hold (.lst acc)) := by simpa using h
            subst e
            exact ⟨_, hD, rfl⟩
        · rcases List.mem_append.mp hp with h | h <;> rcases List.mem_append.mp hq with h' | h'
          · exact hO2.uq p h q h' e
          · have e' : q = (D, .hold (.lst acc)) := by simpa using h'
            subst e'
            exact absurd e (neD p h)
          · have e' : p = (D, .hold (.lst acc)) := by simpa using h
            subst e'
            exact absurd e.symm (neD q h')
          · have e1 : p = (D, .hold (.lst acc)) := by simpa using h
            have e2 : q = (D, .hold (.lst acc)) := by simpa using h'
            rw [e1, e2]
      · obtain ⟨o4, h4, k4⟩ := e4.own (D, .hold (.lst acc)) (by simp) ⟨_, hD, rfl⟩
        have k4' : o4 = .lst acc := k4
        subst k4'
        refine ⟨acc, h4, by omega, acc ++ [v], dacc ++ [dy], upd_same, by simp [ha], ?_, ?_, ?_, ?_⟩
        · refine DqAll.keep (H := H4) (fun b o hb h _ => ?_) ((hq.mono e4).append (.cons q4 .nil)).rehold
          rw [upd_ne (hb (D, .hold (.lst (acc ++ [v]))) (by simp))]
          exact h
        · refine ⟨fun p hp => ?_, hO2.uq, hO2.tabs⟩
          obtain ⟨o, h1, h2⟩ := e4.own p (List.mem_append_left _ hp) (hO2.here p hp)
          exact ⟨o, by rw [upd_ne (neD p hp)]; exact h1, h2.upd (noCode_of h4)⟩
        · intro b o hb h t
          have hbD : b ≠ D := ne_of_none h nD
          rw [upd_ne hbD]
          refine e4.keep b o (fun p hp => ?_) (kp b o hb h t) t
          rcases List.mem_append.mp hp with h | h
          · exact hb p h
          · have e : p = (D, .hold (.lst acc)) := by simpa using h
            subst e
            exact hbD
        · rw [show (fun ys => P (DL.D.lst (dacc ++ [dy] ++ ys))) = fun ys => P (.lst (dacc ++ dy :: ys)) from by funext ys; rw [List.append_assoc]; rfl]
          exact hy
  case hd =>
    rintro H2 ⟨acc, dacc, hD, ha, hq, hO2, kp, hw⟩
    rw [List.drop_length] at hw
    have hw' : P (.lst (dacc ++ [])) := hw
    rw [List.append_nil] at hw'
    exact k _ hw' _ H2 (e1.trans ⟨kp, fun p hp _ => hO2.here p hp⟩) (.lst oD hD hq.less)
end DL

set_option maxHeartbeats 2000000
namespace DL
open PySem PySem.Spec PyProof.Rows L2
variable [TabCtx]
section
variable {X : Cx} {e a b : Expr} {W Wa Wb : WE} {pos p p2 p3 : Pos}
theorem we_lc {i : Nat} {x : Str} {elt tg iter : Expr} {scope : Scope} {Wi : WI} {We : WE} (hc : X.calm = true) (hN : X.N.Nodup) (hi : PI X tg iter (tIW Wi)) (ok : BlkOk X.N X.env.scope scope [(x, i)])
    (hg : ∀ (s : Shared) (H : Hp) (C : Addr) (cl : List (Str × Addr)) (fp : List Addr), PG (X.blk s H scope (compEnvC scope cl C X.env) fp) tg (gName i))
    (he : ∀ (s : Shared) (H : Hp) (C : Addr) (cl : List (Str × Addr)) (fp : List Addr), PE (X.blk s H scope (compEnvC scope cl C X.env) fp) elt (tW We)) (hs : ∀ x, foldedSetIterable iter X.env x = pure x := by intro _; rfl) :
    PE X (.ListComp elt [⟨tg, iter, [], 0⟩] scope pos) (tW (wLc i Wi We)) :=
  PE.weak (pe_lc (own := [(x, i)]) hc hN hi ok hg (fun _ _ _ _ _ => pts_nil) he hs) fun σ H Q h => lc_red h
/-- for x in range(..), by what holds between the turns -/
def gFor (i : Nat) (Wi : WI) (G : WS) : WS := fun ds N R Z => Wi ds fun xs => ∃ I : Nat → Sl → Prop, I 0 ds ∧ (∀ j x ds', xs[j]? = some x → I j ds' → G (ds'.set i (some x)) (I (j + 1)) R Z) ∧ ∀ ds', I xs.length ds' → N ds'
theorem ws_for {i : Nat} {x : Str} {tg iter : Expr} {body : List Stmt} {E : XK} {G : WS} {Wi : WI} (hp : PassesOwn (model X.prog X.w) X.A X.env X.xe) (hc : X.calm = true) (hi : PI X tg iter (tIW Wi)) (hg : PG X tg (gName i)) (hb : PSs X body (tSW E G))
    (hs : ∀ x, foldedSetIterable iter X.env x = pure x := by intro _; rfl) : PS X (.For tg iter body [] pos) (tSW E (gFor i Wi G)) :=
  PS.weak (ps_for hp hc hi hg hb hs) fun D σ H ⟨O, ds, N, R, Z, hS, hO, hG, hN, hR, hZ⟩ => ⟨O, ds, _, hS, hO, hG, fun xs ⟨I, h0, h1, h2⟩ J H1 e1 ⟨Gd, w, hGd⟩ => by
    refine for_it w (fun j σ2 H2 => ∃ ds', I j ds' ∧ SlD O H2 σ2 ds' ∧ Ext O H1 H2) ⟨ds, h0, hS.mono e1, .refl _ _⟩ (fun j σ2 H2 _ ⟨_, _, _, e2⟩ => hGd H2 e2.keep) ?_ ?_
    · rintro j x σ2 H2 H' hj ⟨ds', hI, hS2, e2⟩ ⟨rfl, d, hd, qd⟩
      have e3 := e1.trans e2
      exact ⟨O, ds'.set i (some d), I (j + 1), R, Z, hS2.set i (qd.mono e2), hO.mono e3, h1 j d ds' hd hI, fun d3 h3 σ3 H3 e4 s3 => ⟨d3, h3, s3, e2.trans e4⟩,
        fun d h v H3 e4 q => hR d h v H3 (e3.trans e4) q, fun C d h dx v H3 e4 q => hZ C d h dx v H3 (e3.trans e4) q⟩
    · rintro σ2 H2 ⟨ds', hI, hS2, e2⟩
      exact hN ds' (h2 ds' hI) σ2 H2 (e1.trans e2) hS2⟩
/-! ### isinstance -/
def tyD : D → Option String
  | .non => some "NoneType"
  | .bl _ => some "bool"
  | .int _ => some "int"
  | .str _ => some "str"
  | .lst _ => some "list"
  | .tup _ => some "tuple"
  | _ => none
theorem ty_of {K : PySem.W.Frag} {O : Ow} {H : Hp} {v : V} {d : D} {t : String} (q : Dq O H v d) (h : tyD d = some t) : TyX K H v (.type t) := by
  cases q <;> simp only [tyD, Option.some.injEq, reduceCtorEq] at h <;> subst h
  · exact .base .non
  · exact .base (.bl _)
  · exact .base (.int _)
  · exact .base (.str _)
  · rename_i a xs ds x r hq
    exact .base (.lst r)
  · rename_i a xs ds x r hq
    rcases r with r | ⟨o, r⟩
    · exact .base (.tup r)
    · exact .fTuple r
def isInt : D → Bool | .int _ => true | .bl _ => true | _ => false
def isStr : D → Bool | .str _ => true | _ => false
def isBl : D → Bool | .bl _ => true | _ => false
def isTup : D → Bool | .tup _ => true | _ => false
def isLst : D → Bool | .lst _ => true | _ => false
/-- what T asks of data -/
structure TyIs (T : String) (f : D → Bool) : Prop where
  is : ∀ d t, tyD d = some t → kitB t T = some (f d)
theorem tyIs_int : TyIs "int" isInt := ⟨fun d t h => by cases d <;> simp only [tyD, Option.some.injEq, reduceCtorEq] at h <;> subst h <;> first | (show kitB _ _ = some true; decide +kernel) | (show kitB _ _ = some false; decide +kernel)⟩
theorem tyIs_str : TyIs "str" isStr := ⟨fun d t h => by cases d <;> simp only [tyD, Option.some.injEq, reduceCtorEq] at h <;> subst h <;> first | (show kitB _ _ = some true; decide +kernel) | (show kitB _ _ = some false; decide +kernel)⟩
theorem tyIs_bool : TyIs "bool" isBl := ⟨fun d t h => by cases d <;> simp only [tyD, Option.some.injEq, reduceCtorEq] at h <;> subst h <;> first | (show kitB _ _ = some true; decide +kernel) | (show kitB _ _ = some false; decide +kernel)⟩
theorem tyIs_tuple : TyIs "tuple" isTup := ⟨fun d t h => by cases d <;> simp only [tyD, Option.some.injEq, reduceCtorEq] at h <;> subst h <;> first | (show kitB _ _ = some true; decide +kernel) | (show kitB _ _ = some false; decide +kernel)⟩
theorem tyIs_list : TyIs "list" isLst := ⟨fun d t h => by cases d <;> simp only [tyD, Option.some.injEq, reduceCtorEq] at h <;> subst h <;> first | (show kitB _ _ = some true; decide +kernel) | (show kitB _ _ = some false; decide +kernel)⟩
def wIsi (f : D → Bool) (W : WE) : WE := fun ds P => W ds fun d => (tyD d).isSome = true ∧ P (.bl (f d))
theorem we_isi {x1 x2 : Str} {T : String} {f : D → Bool} (hT : TyIs T f) (hg : Gl X "isinstance") (hm : X.mg "isinstance" = none) (hg2 : Gl X x2) (hm2 : X.mg x2 = none) (hv2 : bootBuiltins x2 = some (.type T)) (ha : PE X a (tW Wa))
    (hn : x2 ≠ "__name__" := by decide) (hd : (x2 == ("__debug__" : Str)) = false := by decide)
    (hs1 : starEach [a, .Name x2 p2] X.env = (false, eval a X.env) :: starEach [.Name x2 p2] X.env := by rfl) (hs2 : starEach [.Name x2 p2] X.env = (false, eval (.Name x2 p2) X.env) :: starEach [] X.env := by rfl)
    (hpl : (backTo pos (starEach [.Name x2 p2] X.env)).any (·.1) = false := by rfl) : PE X (.Call (.Name "isinstance" p) [a, .Name x2 p2] [] pos) (tW (wIsi f Wa)) :=
  PE.weak (pe_callB call_isi hg hm PyProof.Rows.boot_isinstance (pa_cons ha (pa_cons (pe_bltn (v := .ty T) hg2 hm2 hv2 rfl hn hd) pa_nil hs2) hs1) (by decide) (by decide) hs1 hpl)
    fun σ H Q ⟨O, ds, P, hS, hO, hW, k⟩ => ⟨O, ds, _, hS, hO, hW, fun d ⟨hty, hp⟩ v H1 e1 q1 => by
      obtain ⟨t, ht⟩ := Option.isSome_iff_exists.mp hty
      exact ⟨v, .ty T, _, .type T, f d, rfl, .ty T, ty_of q1 ht, kit_ty (hT.is d t ht), k _ hp _ H1 e1 (.bl _)⟩⟩
/-- isinstance(a, (T, U)) -/
theorem we_isi2 {x2 x3 : Str} {T U : String} {f g : D → Bool} {pt : Pos} {k1} (hT : TyIs T f) (hU : TyIs U g) (hg : Gl X "isinstance") (hm : X.mg "isinstance" = none) (hg2 : Gl X x2) (hm2 : X.mg x2 = none) (hv2 : bootBuiltins x2 = some (.type T))
    (hg3 : Gl X x3) (hm3 : X.mg x3 = none) (hv3 : bootBuiltins x3 = some (.type U)) (ha : PE X a (tW Wa))
    (hn : x2 ≠ "__name__" := by decide) (hd : (x2 == ("__debug__" : Str)) = false := by decide) (hn3 : x3 ≠ "__name__" := by decide) (hd3 : (x3 == ("__debug__" : Str)) = false := by decide)
    (hs1 : starEach [a, .Tuple [.Name x2 p2, .Name x3 p3] k1 pt] X.env = (false, eval a X.env) :: starEach [.Tuple [.Name x2 p2, .Name x3 p3] k1 pt] X.env := by rfl)
    (hs2 : starEach [.Tuple [.Name x2 p2, .Name x3 p3] k1 pt] X.env = (false, eval (.Tuple [.Name x2 p2, .Name x3 p3] k1 pt) X.env) :: starEach [] X.env := by rfl)
    (hs3 : starEach [.Name x2 p2, .Name x3 p3] X.env = (false, eval (.Name x2 p2) X.env) :: starEach [.Name x3 p3] X.env := by rfl) (hs4 : starEach [.Name x3 p3] X.env = (false, eval (.Name x3 p3) X.env) :: starEach [] X.env := by rfl)
    (hpl : (backTo pos (starEach [.Tuple [.Name x2 p2, .Name x3 p3] k1 pt] X.env)).any (·.1) = false := by rfl) : PE X (.Call (.Name "isinstance" p) [a, .Tuple [.Name x2 p2, .Name x3 p3] k1 pt] [] pos) (tW (wIsi (fun d => f d || g d) Wa)) :=
  PE.weak (pe_callB call_isiT hg hm PyProof.Rows.boot_isinstance (pa_cons ha (pa_cons (pe_tup (pa_cons (pe_bltn (v := .ty T) hg2 hm2 hv2 rfl hn hd) (pa_cons (pe_bltn (v := .ty U) hg3 hm3 hv3 rfl hn3 hd3) pa_nil hs4) hs3)) pa_nil hs2) hs1) (by decide) (by decide) hs1 hpl)
    fun σ H Q ⟨O, ds, P, hS, hO, hW, k⟩ => ⟨O, ds, _, hS, hO, hW, fun d ⟨hty, hp⟩ v H1 e1 q1 => by
      obtain ⟨t, ht⟩ := Option.isSome_iff_exists.mp hty
      refine ⟨by show 2 ≤ sizeLine; decide, fun tp np => ⟨v, tp, [.ty T, .ty U], _, [.type T, .type U], f d || g d, rfl, upd_same, .cons (.ty T) (.cons (.ty U) .nil), ty_of (q1.mono (.new np)) ht, ?_, k _ hp _ _ (e1.trans (.new np)) (.bl _)⟩⟩
      refine kitAny_cons (kit_ty (hT.is d t ht)) (fun hf => ?_) (fun hf => by rw [hf]; rfl)
      rw [hf]
      refine kitAny_cons (kit_ty (hU.is d t ht)) (fun hf => ?_) (fun hf => by rw [hf]; rfl)
      rw [hf]
      exact kitAny_nil⟩
/-! ### built-ins -/
def fLen : DFn := fun es P => match es with
  | [.str x] => x.length ≤ sizeLine ∧ P (.int x.length)
  | [.lst xs] => P (.int xs.length)
  | [.tup xs] => P (.int xs.length)
  | _ => False
theorem call_fLen : CallR X (.builtin "len") (rF fLen) := by
  intro pins s σ H xs us Q I r ⟨O, es, P, hq, hO, hg, k⟩
  unfold fLen at hg
  split at hg
  · cases hq with
    | cons a b =>
      cases a; cases b
      exact call_len pins s σ H _ us Q I r ⟨_, _, rfl, ⟨hg.1, rfl⟩, k _ hg.2 _ H (.refl _ _) (.int _)⟩
  · cases hq with
    | cons a b =>
      cases b
      cases a with
      | lst x1 r1 a1 => exact call_len pins s σ H _ us Q I r ⟨_, _, rfl, .inl ⟨_, .of r1, rfl⟩, k _ (by rw [a1.length]; exact hg) _ H (.refl _ _) (.int _)⟩
  · cases hq with
    | cons a b =>
      cases b
      cases a with
      | tup x1 r1 a1 => exact call_len pins s σ H _ us Q I r ⟨_, _, rfl, .inr ⟨_, .inl r1, rfl⟩, k _ (by rw [a1.length]; exact hg) _ H (.refl _ _) (.int _)⟩
  · exact hg.elim
def fAll : DFn := fun es P => match es with
  | [.lst ds] => ∃ bs, boolsOf ds = some bs ∧ P (.bl (bs.all id))
  | _ => False
theorem call_fAll (hc : X.calm = true) : CallR X (.builtin "all") (rF fAll) := by
  intro pins s σ H xs us Q I r ⟨O, es, P, hq, hO, hg, k⟩
  unfold fAll at hg
  split at hg
  · obtain ⟨bs, h1, hg⟩ := hg
    cases hq with
    | cons a b =>
      cases b
      cases a with
      | lst x1 r1 a1 =>
        have e := boolsOf_vs h1 a1
        subst e
        exact cr_all hc pins s σ H _ us Q I r ⟨_, bs, rfl, .of r1, k _ hg _ H (.refl _ _) (.bl _)⟩
  · exact hg.elim
def fAny : DFn := fun es P => match es with
  | [.lst ds] => ∃ bs, boolsOf ds = some bs ∧ P (.bl (bs.any id))
  | _ => False
theorem call_fAny (hc : X.calm = true) : CallR X (.builtin "any") (rF fAny) := by
  intro pins s σ H xs us Q I r ⟨O, es, P, hq, hO, hg, k⟩
  unfold fAny at hg
  split at hg
  · obtain ⟨bs, h1, hg⟩ := hg
    cases hq with
    | cons a b =>
      cases b
      cases a with
      | lst x1 r1 a1 =>
        have e := boolsOf_vs h1 a1
        subst e
        exact cr_any hc pins s σ H _ us Q I r ⟨_, bs, rfl, .of r1, k _ hg _ H (.refl _ _) (.bl _)⟩
  · exact hg.elim
def fMax : DFn := fun es P => match es with
  | [.int i, .int j] => P (.int (if j > i then j else i))
  | _ => False
theorem call_fMax (hc : X.calm = true) : CallR X (.builtin "max") (rF fMax) := by
  intro pins s σ H xs us Q I r ⟨O, es, P, hq, hO, hg, k⟩
  unfold fMax at hg
  split at hg
  · cases hq with
    | cons a b =>
      cases b with
      | cons a2 b2 =>
        cases b2; cases a; cases a2
        exact call_max2 hc pins s σ H _ us Q I r ⟨_, _, rfl, k _ hg _ H (.refl _ _) (.int _)⟩
  · exact hg.elim
def fInt : DFn := fun es P => match es with
  | [.int i] => P (.int i)
  | [.bl b] => P (.int (if b then 1 else 0))
  | _ => False
theorem call_fInt : CallR X (.type "int") (rF fInt) := by
  intro pins s σ H xs us Q I r ⟨O, es, P, hq, hO, hg, k⟩
  unfold fInt at hg
  split at hg
  · cases hq with
    | cons a b =>
      cases b; cases a
      exact call_int1 pins s σ H _ us Q I r (.inl ⟨_, rfl, k _ hg _ H (.refl _ _) (.int _)⟩)
  · cases hq with
    | cons a b =>
      cases b; cases a
      exact call_int1 pins s σ H _ us Q I r (.inr ⟨_, rfl, k _ hg _ H (.refl _ _) (.int _)⟩)
  · exact hg.elim
def fTuple : DFn := fun es P => match es with
  | [.lst ds] => P (.tup ds)
  | [.tup ds] => P (.tup ds)
  | _ => False
theorem call_fTuple : CallR X (.type "tuple") (rF fTuple) := by
  intro pins s σ H xs us Q I r ⟨O, es, P, hq, hO, hg, k⟩
  unfold fTuple at hg
  split at hg
  · cases hq with
    | cons a b =>
      cases b
      cases a with
      | lst x1 r1 a1 => exact call_tuple_of pins s σ H _ us Q I r ⟨_, _, rfl, .inl ⟨.of r1, fun l nl => k _ hg _ _ (.new nl) (.tup (hO.out nl) (.of upd_same) (a1.mono (.new nl)))⟩⟩
  · cases hq with
    | cons a b =>
      cases b
      cases a with
      | tup x1 r1 a1 => exact call_tuple_of pins s σ H _ us Q I r ⟨_, _, rfl, .inr ⟨.inl r1, k _ hg _ H (.refl _ _) (.tup x1 r1 a1)⟩⟩
  · exact hg.elim
def fList : DFn := fun es P => match es with
  | [.lst ds] => P (.lst ds)
  | [.tup ds] => P (.lst ds)
  | _ => False
theorem call_fList : CallR X (.type "list") (rF fList) := by
  intro pins s σ H xs us Q I r ⟨O, es, P, hq, hO, hg, k⟩
  unfold fList at hg
  split at hg
  · cases hq with
    | cons a b =>
      cases b
      cases a with
      | lst x1 r1 a1 => exact call_list_of pins s σ H _ us Q I r ⟨_, _, rfl, .inl (.of r1), fun l nl => k _ hg _ _ (.new nl) (.lst (hO.out nl) upd_same (a1.mono (.new nl)))⟩
  · cases hq with
    | cons a b =>
      cases b
      cases a with
      | tup x1 r1 a1 => exact call_list_of pins s σ H _ us Q I r ⟨_, _, rfl, .inr (.inl r1), fun l nl => k _ hg _ _ (.new nl) (.lst (hO.out nl) upd_same (a1.mono (.new nl)))⟩
  · exact hg.elim
/-! ### subscripts, slices -/
theorem DqAll.atI {O : Ow} {H : Hp} {vs : List V} {ds : List D} {i : Int} {d : D} (h : DqAll O H vs ds) (e : atI ds i = some d) : ∃ v, L2.atI vs i = some v ∧ Dq O H v d := by
  unfold L2.atI at e ⊢
  rw [h.length]
  cases q : ixN ds.length i with
  | none => rw [q] at e; cases e
  | some j =>
    rw [q] at e
    exact h.get (i := j) e
def dIx : DOp := fun x y P => match x, y with
  | .tup ds, .int i => ∃ d, L2.atI ds i = some d ∧ P d
  | .lst ds, .int i => ∃ d, L2.atI ds i = some d ∧ P d
  | .str z, .int i => z.length ≤ sizeLine ∧ ∃ c, L2.atI z.cps.toList i = some c ∧ P (.str ⟨#[c]⟩)
  | _, _ => False
theorem ix_d : IxR X (rD dIx) := by
  intro value slice pins s σ H x y v u Q I rx ry ⟨O, dx, dy, P, qx, qy, hO, hg, k⟩ hs
  unfold dIx at hg
  split at hg
  · obtain ⟨d, h1, hg⟩ := hg
    cases qy
    cases qx with
    | tup x1 r1 a1 =>
      obtain ⟨w, e1, q1⟩ := a1.atI h1
      exact ix_tup value slice pins s σ H _ _ v u Q I rx ry ⟨_, _, _, _, rfl, rfl, .inl r1, e1, k _ hg _ H (.refl _ _) q1⟩ hs
  · obtain ⟨d, h1, hg⟩ := hg
    cases qy
    cases qx with
    | lst x1 r1 a1 =>
      obtain ⟨w, e1, q1⟩ := a1.atI h1
      exact ix_list value slice pins s σ H _ _ v u Q I rx ry ⟨_, _, _, _, rfl, rfl, .of r1, e1, k _ hg _ H (.refl _ _) q1⟩ hs
  · obtain ⟨hz, c, h1, hg⟩ := hg
    cases qy
    cases qx
    exact ix_str value slice pins s σ H _ _ v u Q I rx ry ⟨_, _, _, rfl, rfl, hz, h1, k _ hg _ H (.refl _ _) (.str _)⟩ hs
  · exact hg.elim
theorem we_ix (ha : PE X a (tW Wa)) (hb : PE X b (tW Wb)) (hs : PlainIx b := by exact fun _ _ => rfl) : PE X (.Subscript a b pos) (tW (wOp dIx Wa Wb)) := PE.weak (pe_ix ix_d ha hb hs) fun _ _ _ h => op_red h
abbrev WO := Sl → (Option Int → Prop) → Prop
def tOW (L : WO) : TO := fun σ H Q => ∃ (O : Ow) (ds : Sl) (P : Option Int → Prop), SlD O H σ ds ∧ OwnAll O H ∧ L ds P ∧ ∀ o, P o → ∀ H', Ext O H H' → Q o H'
def woNone : WO := fun _ P => P none
def woSome (W : WE) : WO := fun ds P => W ds fun d => ∃ i, d = .int i ∧ P (some i)
theorem PO.weak {e : Option Expr} {t t' : TO} (h : PO X e t) (k : ∀ σ H Q, t' σ H Q → t σ H Q) : PO X e t' := ⟨fun pins s σ H Q I q => h.run pins s σ H Q I (k σ H Q q)⟩
theorem wo_none : PO X none (tOW woNone) := PO.weak po_none fun σ H Q ⟨O, ds, P, hS, hO, hW, k⟩ => k none hW H (.refl _ _)
theorem wo_some (h : PE X e (tW W)) : PO X (some e) (tOW (woSome W)) := PO.weak (po_some h) fun σ H Q ⟨O, ds, P, hS, hO, hW, k⟩ => ⟨O, ds, _, hS, hO, hW, fun d hd v H1 e1 q1 => by
  obtain ⟨i, rfl, hp⟩ := hd
  cases q1
  exact ⟨i, rfl, k _ hp H1 e1⟩⟩
def cutD (xs : List D) (lo hi : Option Int) : List D := (xs.drop (HT.sIx xs.length 0 lo)).take (HT.sIx xs.length xs.length hi - HT.sIx xs.length 0 lo)
theorem DqAll.cut {O : Ow} {H : Hp} {vs : List V} {ds : List D} (h : DqAll O H vs ds) (lo hi : Option Int) : DqAll O H (cutV vs lo hi) (cutD ds lo hi) := by
  unfold cutV cutD
  rw [h.length]
  exact (h.drop _).take _
def dSlT (x : D) (lo hi : Option Int) (P : D → Prop) : Prop := match x with
  | .tup ds => P (.tup (cutD ds lo hi))
  | _ => False
def dSlL (x : D) (lo hi : Option Int) (P : D → Prop) : Prop := match x with
  | .lst ds => P (.lst (cutD ds lo hi))
  | _ => False
def wSl (f : D → Option Int → Option Int → (D → Prop) → Prop) (W : WE) (lo hi : WO) : WE := fun ds P => W ds fun x => lo ds fun l => hi ds fun h => f x l h P
theorem cut_whole (ds : List D) (lo hi : Option Int) (h : HT.sIx ds.length 0 lo = 0 ∧ HT.sIx ds.length ds.length hi = ds.length) : cutD ds lo hi = ds := by
  unfold cutD
  rw [h.1, h.2]
  simp
theorem we_slT {lo hi : Option Expr} {Lo Hi : WO} (ha : PE X a (tW Wa)) (hl : PO X lo (tOW Lo)) (hh : PO X hi (tOW Hi)) : PE X (.Subscript a (.Slice lo hi none p2) pos) (tW (wSl dSlT Wa Lo Hi)) :=
  PE.weak (pe_slice sl_tupA ha hl hh) fun σ H Q ⟨O, ds, P, hS, hO, hW, k⟩ => ⟨O, ds, _, hS, hO, hW, fun d hd v H1 e1 q1 => ⟨O, ds, _, hS.mono e1, hO.mono e1, hd, fun l hl H2 e2 => ⟨O, ds, _, hS.mono (e1.trans e2), (hO.mono e1).mono e2, hl, fun h hh H3 e3 => by
    have O3 := ((hO.mono e1).mono e2).mono e3
    have q3 := q1.mono (e2.trans e3)
    have E3 := (e1.trans e2).trans e3
    unfold dSlT at hh
    split at hh
    · cases q3 with
      | tup x1 r1 a1 =>
        refine ⟨_, _, rfl, .inl r1, fun hw => ?_, fun hw p np => ?_⟩
        · rw [a1.length] at hw
          rw [cut_whole _ _ _ hw] at hh
          exact k _ hh _ H3 E3 (.tup x1 r1 a1)
        · exact k _ hh _ _ (E3.trans (.new np)) (.tup (O3.out np) (.of upd_same) ((a1.cut _ _).mono (.new np)))
    · exact hh.elim⟩⟩⟩
theorem we_slL {lo hi : Option Expr} {Lo Hi : WO} (ha : PE X a (tW Wa)) (hl : PO X lo (tOW Lo)) (hh : PO X hi (tOW Hi)) : PE X (.Subscript a (.Slice lo hi none p2) pos) (tW (wSl dSlL Wa Lo Hi)) :=
  PE.weak (pe_slice sl_list ha hl hh) fun σ H Q ⟨O, ds, P, hS, hO, hW, k⟩ => ⟨O, ds, _, hS, hO, hW, fun d hd v H1 e1 q1 => ⟨O, ds, _, hS.mono e1, hO.mono e1, hd, fun l hl H2 e2 => ⟨O, ds, _, hS.mono (e1.trans e2), (hO.mono e1).mono e2, hl, fun h hh H3 e3 => by
    have O3 := ((hO.mono e1).mono e2).mono e3
    have q3 := q1.mono (e2.trans e3)
    have E3 := (e1.trans e2).trans e3
    unfold dSlL at hh
    split at hh
    · cases q3 with
      | lst x1 r1 a1 => exact ⟨_, _, rfl, .of r1, fun p np => k _ hh _ _ (E3.trans (.new np)) (.lst (O3.out np) upd_same ((a1.cut _ _).mono (.new np)))⟩
    · exact hh.elim⟩⟩⟩
end
end DL

set_option maxHeartbeats 2000000
namespace DL
open PySem PySem.Spec PyProof.Rows L2
variable [TabCtx]
section
variable {X : Cx} {e a b : Expr} {W Wa Wb : WE} {pos p p2 p3 : Pos} {x : Str}
/-- a number of the module's top -/
theorem we_k {i : Int} (hg : Gl X x) (hm : ∃ t, X.mg x = some (.int i t)) (hd : (x == ("__debug__" : Str)) = false := by decide) : PE X (.Name x pos) (tW (wC (.int i))) := by
  obtain ⟨t, hm⟩ := hm
  exact we_c (pe_glob (v := .int i) hg hm ⟨t, rfl⟩ hd)
def dNeg (d : D) (P : D → Prop) : Prop := match d with
  | .int i => P (.int (-i))
  | _ => False
def wNeg (W : WE) : WE := fun ds P => W ds fun d => dNeg d P
theorem we_neg (h : PE X e (tW W)) : PE X (.UnaryOp .USub e pos) (tW (wNeg W)) := PE.weak (pe_un un_neg h) fun σ H Q ⟨O, ds, P, hS, hO, hW, k⟩ => ⟨O, ds, _, hS, hO, hW, fun d hd v H1 e1 q1 => by
  unfold dNeg at hd
  split at hd
  · cases q1
    exact ⟨_, rfl, k _ hd _ H1 e1 (.int _)⟩
  · exact hd.elim⟩
/-- in, of a tuple of texts that the top has made -/
def KTexts (K : PySem.W.Frag) (mg : Str → Option Value) (x : Str) (zs : List Str) : Prop := ∃ (q : Addr), mg x = some (.ref q) ∧ ∃ (o : Obj) (its : Array Value) (n : Nat), K.lookup q = some o ∧ o.cls = .type "tuple" ∧ o.data = .seq its n ∧ its.size ≤ sizeLine ∧ Vals (zs.map V.str) its.toList
def wInK (zs : List Str) (W : WE) : WE := fun ds P => W ds fun d => ∃ a, d = .str a ∧ P (.bl (decide (a ∈ zs)))
theorem inK_red {zs : List Str} {q : Addr} {σ : L2.St} {H : Hp} {Q : VK} (hq : ∀ H : Hp, SqT X.K H q (zs.map V.str)) (h : tW (wInK zs W) σ H Q) : tOp (rIn X.K false) (tW W) (tC (.ref q)) σ H Q := by
  obtain ⟨O, ds, P, hS, hO, hW, k⟩ := h
  refine ⟨O, ds, _, hS, hO, hW, fun d hd v H1 e1 q1 => ?_⟩
  obtain ⟨a, rfl, hp⟩ := hd
  cases q1
  refine ⟨q, _, rfl, .inr (hq H1), rfl, flat_strs _, ?_⟩
  rw [if_neg Bool.false_ne_true, inV_str]
  exact k _ hp _ H1 e1 (.bl _)
theorem we_inK {zs : List Str} (ha : PE X a (tW W)) (hg : Gl X x) (hk : KTexts X.K X.mg x zs) (hd : (x == ("__debug__" : Str)) = false := by decide) (hm : behindInMarks .In (.Name x p2) = false := by with_unfolding_all rfl) :
    PE X (.Compare a [.In] [.Name x p2] pos) (tW (wInK zs W)) := by
  obtain ⟨q, hmg, o, its, n, h1, h2, h3, h4, h5⟩ := hk
  exact PE.weak (pe_cmpR op_in_seq ha (pe_glob (v := .ref q) hg hmg rfl hd) hm) fun σ H Q h => inK_red (fun _ => .inr ⟨o, its, n, h1, h2, h3, h4, h5⟩) h
/-- a[lo:hi] of a tuple or list -/
def dSl (x : D) (lo hi : Option Int) (P : D → Prop) : Prop := match x with
  | .tup ds => P (.tup (cutD ds lo hi))
  | .lst ds => P (.lst (cutD ds lo hi))
  | _ => False
theorem we_sl {lo hi : Option Expr} {Lo Hi : WO} (ha : PE X a (tW Wa)) (hl : PO X lo (tOW Lo)) (hh : PO X hi (tOW Hi)) : PE X (.Subscript a (.Slice lo hi none p2) pos) (tW (wSl dSl Wa Lo Hi)) :=
  PE.weak (pe_slice (sl_tupA.or sl_list) ha hl hh) fun σ H Q ⟨O, ds, P, hS, hO, hW, k⟩ => ⟨O, ds, _, hS, hO, hW, fun d hd v H1 e1 q1 => ⟨O, ds, _, hS.mono e1, hO.mono e1, hd, fun l hl H2 e2 => ⟨O, ds, _, hS.mono (e1.trans e2), (hO.mono e1).mono e2, hl, fun h hh H3 e3 => by
    have O3 := ((hO.mono e1).mono e2).mono e3
    have q3 := q1.mono (e2.trans e3)
    have E3 := (e1.trans e2).trans e3
    unfold dSl at hh
    split at hh
    · cases q3 with
      | tup x1 r1 a1 =>
        refine .inl ⟨_, _, rfl, .inl r1, fun hw => ?_, fun hw p np => ?_⟩
        · rw [a1.length] at hw
          rw [cut_whole _ _ _ hw] at hh
          exact k _ hh _ H3 E3 (.tup x1 r1 a1)
        · exact k _ hh _ _ (E3.trans (.new np)) (.tup (O3.out np) (.of upd_same) ((a1.cut _ _).mono (.new np)))
    · cases q3 with
      | lst x1 r1 a1 => exact .inr ⟨_, _, rfl, .of r1, fun p np => k _ hh _ _ (E3.trans (.new np)) (.lst (O3.out np) upd_same ((a1.cut _ _).mono (.new np)))⟩
    · exact hh.elim⟩⟩⟩
/-- z.join(list of texts) -/
def wJoin (z : Str) (W : WE) : WE := fun ds P => W ds fun d => ∃ es xs, d = .lst es ∧ strsOf es = some xs ∧ (xs.map (·.length)).sum + xs.length * z.length ≤ 16777216 ∧ P (.str (Txt.join z xs))
theorem we_join {z : Str} {j : Nat} {pc pa : Pos} (ha : PE X e (tW W))
    (hbase : attributeBase (.Constant (.str z) j pc) "join" X.env (eval (.Constant (.str z) j pc) X.env) = eval (.Constant (.str z) j pc) X.env := by rfl)
    (hfew : ((backTo pos (starEach [e] X.env)).all (fun x => !x.1) && (backToKw pos (keywordEach [] X.env)).all (fun x => x.1.isSome)
      && decide (([e] : List Expr).length + ([] : List Keyword).length + (if ([] : List Keyword).isEmpty then 0 else 1) < 30)) = true := by rfl)
    (hline : (pa.endLine == pos.line) = true := by rfl) (hs : starEach [e] X.env = (false, eval e X.env) :: starEach [] X.env := by rfl) (hpl : (backTo pos (starEach [] X.env)).any (·.1) = false := by rfl) :
    PE X (.Call (.Attribute (.Constant (.str z) j pc) "join" pa) [e] [] pos) (tW (wJoin z W)) :=
  PE.weak (pe_bm PySem.F.plainAttrs_str PySem.F.slot_str_join PySem.F.type_str_join mt_join pe_str (pa_cons ha pa_nil hs) hbase hfew hline hs hpl) fun σ H Q ⟨O, ds, P, hS, hO, hW, k⟩ =>
    ⟨rfl, O, ds, _, hS, hO, hW, fun d hd v H1 e1 q1 => by
      obtain ⟨es, xs, rfl, h1, h2, hp⟩ := hd
      cases q1 with
      | lst x1 r1 a1 =>
        have ev := strsOf_vs h1 a1
        subst ev
        exact ⟨z, _, xs, rfl, rfl, .inl (.of r1), h2, k _ hp _ H1 e1 (.str _)⟩⟩
/-- repr of data, where nothing is being written -/
def fRepr : DFn := fun es P => match es with
  | [d] => d.pl = true ∧ d.py.showable = true ∧ d.py.hasDict = false ∧ d.py.depth ≤ 60 ∧ d.py.shown.length ≤ sizeLine ∧ P (.str d.py.shown)
  | _ => False
end
/-! ### defs that ask that nothing is being written (repr) -/
structure FnG (P : Program) (w : World) (K : PySem.W.Frag) (mg : Str → Option Value) (base : Heap) (CX : CXT) (k : Nat) (f : Addr) (fd : FuncData) (ps : List Str) (sp : Sp) : Prop where
  len : ∀ vs H Q E, sp vs H Q E → vs.length = ps.length
  go : ∀ (A : Around) (outer : List Env) (s : Shared) (H : Hp) (ar : Args) (us : List Value) (vs : List V) (Q : VK) (E : XK), A.guards = some [] → Room k A → Env0 P w K mg base A outer s H → BindsTo s fd ar (ps.zip us) → Vals vs us → sp vs H Q E →
    codeAny (model P w) A (.call (.ref f) ar) (CR CX outer P w H s Q E) s
section
variable {P : Program} {w : World} {K : PySem.W.Frag} {mg : Str → Option Value} {base : Heap}
theorem FnG.of {CX : CXT} {k : Nat} {f : Addr} {x qual : Str} {st : Stmt} {fd : FuncData} {N ps : List Str} {sp : Sp} (F : Fun K x qual st f fd) (S : FnScope N ps (defScope st)) (len : ∀ vs H Q E, sp vs H Q E → vs.length = ps.length)
    (hb : ∀ (cdv : Value) (A : Around) (outer : List Env) (s : Shared) (H : Hp) (vs : List V) (Q : VK) (E : XK), A.guards = some [] → Room k (A.deeper (envOfC qual (defScope st) s.heap.objs.size f cdv)) → sp vs H Q E →
      ∃ t, PSs (cxOf CX P w K mg base N qual (defScope st) f cdv A outer s H E) (defBody st) t ∧ t { nx := fun _ H' => Q .non H', rt := Q } (L2.start N vs) H) : FnG P w K mg base CX (k + 1) f fd ps sp := by
  obtain ⟨oc, od, kV, doc, pm, an, cdv, ct, osl, rfl, lk, hcd⟩ := F.ex
  refine ⟨len, fun A outer s H ar us vs Q E hgd hr ev hbd hvs hsp => ?_⟩
  have kin : K.In s.heap := ev.mod.kin.keeps fun c u z => (ev.bs c u z).1
  have nol : s.heap.NoLimit := ev.mod.nolimit.keeps fun c u z => (ev.bs c u z).1
  refine codeAny_call_function hr.depth (kin _ _ lk) rfl S.co S.gen rfl (PySem.W.codeRec_of kin hcd) (hbd _ _ _ _ ?_)
  refine wpAny_newFunctionEnv_cells S.kind (fun y hy => ?_) fun env he s1 ic => ?_
  · rcases S.par y.1 (List.of_mem_zip (a := y.1) (b := y.2) hy).1 with z | z
    · exact .inl z
    · exact .inr ⟨z, PySem.W.cellsFrom_some _ _ _ (.inl z)⟩
  · subst he
    refine ⟨nol.keeps ic.toInCall.keep, codeAny_func ?_⟩
    obtain ⟨t, ht, q⟩ := hb cdv A outer s H vs Q E hgd (hr.deeper _) hsp
    have J : Inv (cxOf CX P w K mg base N qual (defScope st) f cdv A outer s H E) [] (L2.start N vs) H s1 := inv_start S hr.hd ev (len _ _ _ _ hsp) hvs ic
    refine wpAny_mono (ht.run [] s1 (L2.start N vs) H _ J q) (fun fl s' z => ?_) fun _ _ z => z
    cases fl with
    | ret u =>
      obtain ⟨v, σ', H', J', rv, q'⟩ := z
      exact ⟨v, H', J'.os, J'.bare, J'.base, J'.hok, rv, q'⟩
    | next =>
      obtain ⟨σ', H', J', q'⟩ := z
      exact ⟨V.non, H', J'.os, J'.bare, J'.base, J'.hok, rfl, q'⟩
    | brk =>
      obtain ⟨_, _, _, q'⟩ := z
      exact q'.elim
    | cont =>
      obtain ⟨_, _, _, q'⟩ := z
      exact q'.elim
/-- as fn_ok -/
theorem fnG_ok {x qual : Str} {st : Stmt} {f : Addr} {fd : FuncData} {N ps : List Str} {k : Nat} {g : DFn} (F : Fun K x qual st f fd) (S : FnScope N ps (defScope st)) (len : ∀ es P, g es P → es.length = ps.length)
    (hbody : ∀ (cdv : Value) (A : Around) (outer : List Env) (s : Shared) (H : Hp) (E : XK), A.guards = some [] → Room k (A.deeper (envOfC qual (defScope st) s.heap.objs.size f cdv)) →
      ∃ G, PSs (cxOf CX0 P w K mg base N qual (defScope st) f cdv A outer s H E).nox (defBody st) (tSW (fun _ _ _ => False) G) ∧ ∀ es P, g es P → G (startD N es) (fun _ => P .non) P fun _ _ => False) :
    FnG P w K mg base CX0 (k + 1) f fd ps (spD fun es P _ => g es P) :=
  FnG.of F S (fun vs H Q E ⟨O, es, P, Z, hq, hO, hg, _⟩ => by rw [hq.length]; exact len _ _ hg) fun cdv A outer s H vs Q E hgd hr ⟨O, es, P, Z, hq, hO, hg, hP, hZ⟩ => by
    obtain ⟨G, h1, h2⟩ := hbody cdv A outer s H E hgd hr
    exact ⟨_, h1.nox, O, startD N es, _, P, _, start_sl hq, hO, h2 es P hg, fun ds' hd σ' H' e1 _ => hP _ hd _ H' e1 .non, hP, fun _ _ z => z.elim⟩
end
section
variable {X : Cx} {k : Nat} {f : Addr} {fd : FuncData} {ps : List Str} {x : Str} {p pos : Pos} {e : Expr} {es : List Expr} {A : WA} {ta : TA}
theorem pe_callG {sp : Sp} (F : FnG X.prog X.w X.K X.mg X.base CX0 k f fd ps sp) (hgd : X.A.guards = some []) (hr : Room k X.A) (hg : Gl X x) (hm : X.mg x = some (.ref f)) (hk : PySem.W.keepIn X.K (.ref f) = true) (hb : Binds X.K fd ps [])
    (ha : PA X (e :: es) ta) (hdb : (x == ("__debug__" : Str)) = false := by decide) (he : starEach (e :: es) X.env = (false, eval e X.env) :: starEach es X.env := by rfl) (hpl : (backTo pos (starEach es X.env)).any (·.1) = false := by rfl) :
    PE X (.Call (.Name x p) (e :: es) [] pos) (tCall sp [] E0 ta) := by
  refine ⟨fun pins s σ H Q I h => ?_⟩
  refine wpAny_Call_Name_kw (ld_glob I hg hm ?_ hdb)
  refine PySem.W.callWith_K (h₀ := X.base) I.ok.mod.kin hk (thn (ha.run pos pins s σ H _ I h) fun us s1 ⟨vs, H1, I1, r, q⟩ => ⟨I1.kIn, ?_⟩) he hpl
  have hl : (us ++ []).length = ps.length := by
    have z := F.len _ _ _ _ q
    rw [List.append_nil] at z ⊢
    rw [← r.length]
    exact z
  refine wpAny_call (codeAny_mono (F.go X.A X.stack s1 H1 ⟨us, []⟩ (us ++ []) (vs ++ []) Q E0 hgd hr I1.env0 (hb s1 us I1.kIn hl) (r.append .nil) q) fun z s' hq => ?_)
  cases z with
  | error _ => exact False.elim hq
  | ok fl =>
    cases fl with
    | ret _ => exact I1.after hq
    | next => exact False.elim hq
    | brk => exact False.elim hq
    | cont => exact False.elim hq
theorem we_callG {g : DFn} (F : FnG X.prog X.w X.K X.mg X.base CX0 k f fd ps (spD fun es P _ => g es P)) (hgd : X.A.guards = some []) (hr : Room k X.A) (hg : Gl X x) (hm : X.mg x = some (.ref f)) (hk : PySem.W.keepIn X.K (.ref f) = true) (hb : Binds X.K fd ps [])
    (ha : PA X (e :: es) (tAW A)) (hdb : (x == ("__debug__" : Str)) = false := by decide) (he : starEach (e :: es) X.env = (false, eval e X.env) :: starEach es X.env := by rfl) (hpl : (backTo pos (starEach es X.env)).any (·.1) = false := by rfl) :
    PE X (.Call (.Name x p) (e :: es) [] pos) (tW (wCall g A)) := PE.weak (pe_callG F hgd hr hg hm hk hb ha hdb he hpl) fun σ H Q h => fn_red (f := fun es P _ => g es P) h
end
end DL

set_option maxHeartbeats 2000000
namespace DL
open PySem PySem.Spec PyProof.Rows L2
variable [TabCtx]
section
variable {X : Cx} {e a b : Expr} {W Wa Wb : WE} {pos p p2 p3 : Pos} {x : Str}
theorem call_fRepr (hgd : X.A.guards = some []) (hu : X.A.units + 64 < cLine) : CallR X (.builtin "repr") (rF fRepr) := by
  intro pins s σ H xs us Q I r ⟨O, es, P, hq, hO, hg, k⟩
  unfold fRepr at hg
  split at hg
  · obtain ⟨g1, g2, g3, g4, g5, g6⟩ := hg
    cases hq with
    | cons a b =>
      cases b
      cases r with
      | cons ra rb =>
        cases rb
        rename_i d v u
        have fin : ∀ h' t tk, (∀ b o, s.heap.get? b = some o → h'.get? b = some o) → EP X pins σ Q (.str d.py.shown t) { s with heap := h', toks := tk } :=
          fun h' t tk hk => ⟨.str d.py.shown, H, I.kept hk, ⟨_, rfl⟩, k _ g6 _ H (.refl _ _) (.str _)⟩
        cases a with
        | non =>
          cases ra
          exact PySem.P.repr_of_none (fin s.heap _ _ fun _ _ z => z)
        | bl b =>
          cases ra
          exact PySem.P.repr_of_bool (fin s.heap _ _ fun _ _ z => z)
        | int i =>
          obtain ⟨t, rfl⟩ := ra
          exact PySem.P.repr_of_int (by simpa [D.py, PyData.showable] using g2) (fin s.heap _ _ fun _ _ z => z)
        | str y =>
          obtain ⟨t, rfl⟩ := ra
          exact PySem.P.repr_of_str (fin s.heap _ _ fun _ _ z => z) g5
        | @lst ad xs ds h1 h2 h3 =>
          obtain ⟨as, rd⟩ := Dp.reads I _ _ _ (Dq.dp (.lst h1 h2 h3) g1) ra
          cases ra
          exact repr_of_reads' rd g2 (PyData.noDict_hsm g3) hgd (by omega) (fun _ _ z => z) (fun h' t tk hk => fin h' t tk hk) g5
        | @tup ad xs ds h1 h2 h3 =>
          obtain ⟨as, rd⟩ := Dp.reads I _ _ _ (Dq.dp (.tup h1 h2 h3) g1) ra
          cases ra
          exact repr_of_reads' rd g2 (PyData.noDict_hsm g3) hgd (by omega) (fun _ _ z => z) (fun h' t tk hk => fin h' t tk hk) g5
        | src _ => simp [D.pl] at g1
        | fn _ => simp [D.pl] at g1
        | exn _ _ _ => simp [D.pl] at g1
        | sq _ => simp [D.pl] at g1
        | ins _ _ _ => simp [D.pl] at g1
        | dct _ _ _ => simp [D.pl] at g1
  · exact hg.elim
end
end DL
namespace DL
open PySem PySem.Spec PyProof.Rows L2
/-- a def of the top -/
structure Dn (K : PySem.W.Frag) (mg : Str → Option Value) (x : Str) (st : Stmt) (ps : List Str) where
  f : Addr
  fd : FuncData
  F : Fun K x x st f fd
  b : Binds K fd ps []
  m : mg x = some (.ref f)
/-- an own error class of the top -/
structure Ex (K : PySem.W.Frag) (mg : Str → Option Value) (x q : Str) (st : Stmt) where
  C : Addr
  m : mg x = some (.ref C)
  T : OexC K C
  no : PySem.W.findIn K (.ref C) "told" = some none
  fI : Addr
  fd : FuncData
  F : Fun K "__init__" q st fI fd
  b : Binds K fd ["self", "told"] []
  iC : PySem.W.findIn K (.ref C) "__init__" = some (some (.ref fI))
  tI : PySem.W.typeIn K (.ref fI) = some (.type "function")
/-- contracts: a function of data, where ok -/
def pure1 (ok : D → Prop) (f : D → D) : DFn := fun es P => ∃ d, es = [d] ∧ ok d ∧ P (f d)
def pure2 (ok : D → D → Prop) (f : D → D → D) : DFn := fun es P => ∃ a b, es = [a, b] ∧ ok a b ∧ P (f a b)
def pure3 (ok : D → D → D → Prop) (f : D → D → D → D) : DFn := fun es P => ∃ a b c, es = [a, b, c] ∧ ok a b c ∧ P (f a b c)
theorem pure1_len {ok : D → Prop} {f : D → D} {es : List D} {P : D → Prop} (h : pure1 ok f es P) : es.length = 1 := by
  obtain ⟨d, rfl, _⟩ := h
  rfl
theorem pure2_len {ok : D → D → Prop} {f : D → D → D} {es : List D} {P : D → Prop} (h : pure2 ok f es P) : es.length = 2 := by
  obtain ⟨a, b, rfl, _⟩ := h
  rfl
theorem pure3_len {ok : D → D → D → Prop} {f : D → D → D → D} {es : List D} {P : D → Prop} (h : pure3 ok f es P) : es.length = 3 := by
  obtain ⟨a, b, c, rfl, _⟩ := h
  rfl
theorem boot_intT : bootBuiltins "int" = some (.type "int") := by decide +kernel
theorem boot_strT : bootBuiltins "str" = some (.type "str") := by decide +kernel
theorem boot_boolT : bootBuiltins "bool" = some (.type "bool") := by decide +kernel
theorem boot_tupleT : bootBuiltins "tuple" = some (.type "tuple") := by decide +kernel
theorem boot_listT : bootBuiltins "list" = some (.type "list") := by decide +kernel
theorem boot_lenB : bootBuiltins "len" = some (.builtin "len") := by decide +kernel
theorem boot_allB : bootBuiltins "all" = some (.builtin "all") := by decide +kernel
theorem boot_anyB : bootBuiltins "any" = some (.builtin "any") := by decide +kernel
theorem boot_maxB : bootBuiltins "max" = some (.builtin "max") := by decide +kernel
theorem boot_reprB : bootBuiltins "repr" = some (.builtin "repr") := by decide +kernel
end DL

set_option maxHeartbeats 2000000
namespace DL
open PySem PySem.Spec PyProof.Rows L2
variable [TabCtx]
theorem wEach_pure {f : D → (D → Prop) → Prop} (g : D → D) : ∀ {xs : List D} {P : List D → Prop}, (∀ x ∈ xs, ∀ P' : D → Prop, P' (g x) → f x P') → P (xs.map g) → wEach f xs P
  | [], _, _, h => h
  | x :: xs, P, hf, h => hf x List.mem_cons_self _ (wEach_pure g (fun y hy => hf y (List.mem_cons_of_mem _ hy)) h)
theorem bools_map {α : Type} (h : α → Bool) : ∀ xs : List α, boolsOf (xs.map fun x => D.bl (h x)) = some (xs.map h)
  | [] => rfl
  | x :: xs => by
    show (boolsOf (xs.map fun x => D.bl (h x))).map (h x :: ·) = some (h x :: xs.map h)
    rw [bools_map h xs]
    rfl
theorem strs_map {α : Type} (h : α → Str) : ∀ xs : List α, strsOf (xs.map fun x => D.str (h x)) = some (xs.map h)
  | [] => rfl
  | x :: xs => by
    show (strsOf (xs.map fun x => D.str (h x))).map (h x :: ·) = some (h x :: xs.map h)
    rw [strs_map h xs]
    rfl
theorem signs_len (z : Str) : (DL.signs z).length = z.length := by
  unfold DL.signs
  rw [List.length_map]
  simp [Str.length]
theorem wEach_signs {f : D → (D → Prop) → Prop} {z : Str} {P : List D → Prop} (g : Nat → D) (hf : ∀ (c : Nat) (P' : D → Prop), P' (g c) → f (.str ⟨#[c]⟩) P') (hp : P (z.cps.toList.map g)) : wEach f (DL.signs z) P := by
  unfold DL.signs
  generalize z.cps.toList = l at hp
  induction l generalizing P with
  | nil => exact hp
  | cons c l ih => exact hf c _ (ih hp)
/-! ### small data -/
def gd : Nat → D → Bool
  | _, .non => true
  | _, .bl _ => true
  | _, .int i => decide (i.natAbs.log2 < 1000)
  | _, .str x => decide (x.length ≤ 100) && PyData.strOk x
  | n + 1, .lst xs => decide (xs.length ≤ 100) && xs.all (gd n)
  | n + 1, .tup xs => decide (xs.length ≤ 100) && xs.all (gd n)
  | _, _ => false
theorem gd_up : ∀ {n : Nat} {d : D}, gd n d = true → gd (n + 1) d = true := by
  intro n
  induction n with
  | zero => intro d h; cases d <;> simp [gd] at h ⊢ <;> exact h
  | succ n ih =>
    intro d h
    cases d with
    | lst xs =>
      simp only [gd, Bool.and_eq_true, List.all_eq_true] at h ⊢
      exact ⟨h.1, fun x hx => ih (h.2 x hx)⟩
    | tup xs =>
      simp only [gd, Bool.and_eq_true, List.all_eq_true] at h ⊢
      exact ⟨h.1, fun x hx => ih (h.2 x hx)⟩
    | _ => simpa [gd] using h
def Good (d : D) : Prop := gd 8 d = true
def tyOk (d : D) : Prop := (tyD d).isSome = true
theorem Good.ty {d : D} (h : Good d) : tyOk d := by
  cases d <;> simp [Good, gd, tyOk, tyD] at h ⊢
theorem Good.tup {xs : List D} (h : Good (.tup xs)) : xs.length ≤ 100 ∧ ∀ x ∈ xs, Good x := by
  unfold Good at h
  simp only [gd, Bool.and_eq_true, List.all_eq_true, decide_eq_true_eq] at h
  exact ⟨h.1, fun x hx => gd_up (h.2 x hx)⟩
theorem Good.lst {xs : List D} (h : Good (.lst xs)) : xs.length ≤ 100 ∧ ∀ x ∈ xs, Good x := by
  unfold Good at h
  simp only [gd, Bool.and_eq_true, List.all_eq_true, decide_eq_true_eq] at h
  exact ⟨h.1, fun x hx => gd_up (h.2 x hx)⟩
theorem Good.str {x : Str} (h : Good (.str x)) : x.length ≤ 100 := by
  unfold Good at h
  simp only [gd, Bool.and_eq_true, decide_eq_true_eq] at h
  exact h.1
theorem line_big {n : Nat} (h : n ≤ 100000) : n ≤ sizeLine := by
  rw [sizeLine_eq]
  omega
/-! ### pure questions of the checks -/
def isNum : D → Bool | .int _ => true | _ => false
def isWithin (d : D) (lo hi : Int) : Bool := match d with | .int i => decide (lo ≤ i) && decide (i ≤ hi) | _ => false
def low (c : Nat) : Bool := decide (97 ≤ c) && decide (c ≤ 122)
def isName : D → Bool
  | .str x => decide (1 ≤ x.length) && decide (x.length ≤ 4) && x.cps.toList.all low
  | _ => false
def isOperand (d : D) : Bool := isWithin d 0 9972 || isName d
def dlen : D → Int
  | .str x => x.length
  | .lst xs => xs.length
  | .tup xs => xs.length
  | _ => 0
theorem tyD_non  : (tyD .non).isSome = true := rfl
theorem isInt_non  : DL.isInt .non = false := rfl
theorem isStr_non  : DL.isStr .non = false := rfl
theorem isBl_non  : DL.isBl .non = false := rfl
theorem isTup_non  : DL.isTup .non = false := rfl
theorem isLst_non  : DL.isLst .non = false := rfl
theorem tyD_bl {b : Bool} : (tyD (.bl b)).isSome = true := rfl
theorem isInt_bl {b : Bool} : DL.isInt (.bl b) = true := rfl
theorem isStr_bl {b : Bool} : DL.isStr (.bl b) = false := rfl
theorem isBl_bl {b : Bool} : DL.isBl (.bl b) = true := rfl
theorem isTup_bl {b : Bool} : DL.isTup (.bl b) = false := rfl
theorem isLst_bl {b : Bool} : DL.isLst (.bl b) = false := rfl
theorem tyD_int {i : Int} : (tyD (.int i)).isSome = true := rfl
theorem isInt_int {i : Int} : DL.isInt (.int i) = true := rfl
theorem isStr_int {i : Int} : DL.isStr (.int i) = false := rfl
theorem isBl_int {i : Int} : DL.isBl (.int i) = false := rfl
theorem isTup_int {i : Int} : DL.isTup (.int i) = false := rfl
theorem isLst_int {i : Int} : DL.isLst (.int i) = false := rfl
theorem tyD_str {x : Str} : (tyD (.str x)).isSome = true := rfl
theorem isInt_str {x : Str} : DL.isInt (.str x) = false := rfl
theorem isStr_str {x : Str} : DL.isStr (.str x) = true := rfl
theorem isBl_str {x : Str} : DL.isBl (.str x) = false := rfl
theorem isTup_str {x : Str} : DL.isTup (.str x) = false := rfl
theorem isLst_str {x : Str} : DL.isLst (.str x) = false := rfl
theorem tyD_lst {xs : List D} : (tyD (.lst xs)).isSome = true := rfl
theorem isInt_lst {xs : List D} : DL.isInt (.lst xs) = false := rfl
theorem isStr_lst {xs : List D} : DL.isStr (.lst xs) = false := rfl
theorem isBl_lst {xs : List D} : DL.isBl (.lst xs) = false := rfl
theorem isTup_lst {xs : List D} : DL.isTup (.lst xs) = false := rfl
theorem isLst_lst {xs : List D} : DL.isLst (.lst xs) = true := rfl
theorem tyD_tup {xs : List D} : (tyD (.tup xs)).isSome = true := rfl
theorem isInt_tup {xs : List D} : DL.isInt (.tup xs) = false := rfl
theorem isStr_tup {xs : List D} : DL.isStr (.tup xs) = false := rfl
theorem isBl_tup {xs : List D} : DL.isBl (.tup xs) = false := rfl
theorem isTup_tup {xs : List D} : DL.isTup (.tup xs) = true := rfl
theorem isLst_tup {xs : List D} : DL.isLst (.tup xs) = false := rfl
theorem ifF {c : Bool} {A B : Prop} (h : c = false) (b : B) : if c = true then A else B := by
  subst h
  exact b
theorem ifT {c : Bool} {A B : Prop} (h : c = true) (a : A) : if c = true then A else B := by
  subst h
  exact a
theorem at_0 {a : D} {r : List D} : atI (a :: r) 0 = some a := atI_nat (j := 0) rfl
theorem at_1 {a b : D} {r : List D} : atI (a :: b :: r) 1 = some b := atI_nat (j := 1) rfl
theorem at_2 {a b c : D} {r : List D} : atI (a :: b :: c :: r) 2 = some c := atI_nat (j := 2) rfl
theorem at_3 {a b c d : D} {r : List D} : atI (a :: b :: c :: d :: r) 3 = some d := atI_nat (j := 3) rfl
theorem at_4 {a b c d e : D} {r : List D} : atI (a :: b :: c :: d :: e :: r) 4 = some e := atI_nat (j := 4) rfl
theorem Good.tyS {d : D} (h : Good d) : (tyD d).isSome = true := h.ty
theorem low_is (c : Nat) : (if (!decide ((⟨#[c]⟩ : Str).cps.toList < ("a" : Str).cps.toList)) = true then !decide (("z" : Str).cps.toList < (⟨#[c]⟩ : Str).cps.toList) else false) = low c := by
  have e1 : ("a" : Str).cps.toList = [97] := by decide
  have e2 : ("z" : Str).cps.toList = [122] := by decide
  rw [e1, e2]
  show (if (!decide ([c] < [97])) = true then !decide ([122] < [c]) else false) = low c
  have h1 : ([c] < [97]) ↔ c < 97 := by simp [List.cons_lt_cons_iff]
  have h2 : ([122] < [c]) ↔ 122 < c := by simp [List.cons_lt_cons_iff]
  unfold low
  by_cases a : c < 97 <;> by_cases b : 122 < c <;> simp [h1, h2, a, b] <;> omega
theorem okEq_int (i : Int) : okEq (.int i) := ⟨by unfold D.pl; rfl, by unfold D.py; rfl⟩
theorem okEq_str {x : Str} (h : PyData.strOk x = true) : okEq (.str x) := ⟨by unfold D.pl; rfl, by unfold D.py SeqAt.shaped PyData.canLay0; rw [h]; rfl⟩
theorem okEq_non : okEq .non := ⟨by unfold D.pl; rfl, by unfold D.py; rfl⟩
theorem okEq_bl (b : Bool) : okEq (.bl b) := ⟨by unfold D.pl; rfl, by unfold D.py; rfl⟩
theorem eqD_int (i j : Int) : eqD (.int i) (.int j) = decide (i = j) := by
  unfold eqD D.py PyData.eqv
  exact Bool.beq_eq_decide_eq i j
theorem eqD_str (x y : Str) : eqD (.str x) (.str y) = decide (x = y) := by
  unfold eqD D.py PyData.eqv
  exact Bool.beq_eq_decide_eq x y
/-! ### a source of draws: a list of two numbers that the law's own defs alone change -/
section
variable {X : Cx} {e : Expr} {W : WE} {pos p1 p2 p3 : Pos} {x : Str} {i j : Nat} {k : Int}
def SrcN (k : Int) (n : Int) : Prop := k = 0 ∨ (k = 1 ∧ 0 ≤ n ∧ n < 2147483647)
def wSrc (i : Nat) (k : Int) : WE := fun ds P => (k = 0 ∨ k = 1) ∧ (∃ p, ds[i]? = some (some (.src p))) ∧ ∀ n : Int, SrcN k n → P (.int n)
theorem src_at {O : Ow} {H : Hp} {p : Addr} (h : OwnAll O H) (hp : (p, Own.src) ∈ O) : ∃ a b : Int, H p = some (.lst [.int a, .int b]) ∧ 0 ≤ b ∧ b < 2147483647 := by
  obtain ⟨o, h1, a, b, rfl, h2⟩ := h.here _ hp
  exact ⟨a, b, h1, h2⟩
theorem we_src (hx : PE X (.Name x p1) (tVar i)) : PE X (.Subscript (.Name x p1) (.Constant (.int k) j p2) pos) (tW (wSrc i k)) :=
  PE.weak (pe_ix ix_list hx pe_int fun _ _ => rfl) fun σ H Q ⟨O, ds, P, hS, hO, ⟨hk, ⟨p, hp⟩, hn⟩, kk⟩ => by
    obtain ⟨v, a, b⟩ := hS.val i _ hp
    cases b with
    | src hp' =>
      obtain ⟨n, m, h1, h2, h3⟩ := src_at hO hp'
      refine ⟨_, a, p, [.int n, .int m], k, ?_⟩
      rcases hk with rfl | rfl
      · exact ⟨.int n, rfl, rfl, .of h1, atI_nat (j := 0) rfl, kk _ (hn n (.inl rfl)) _ H (.refl _ _) (.int _)⟩
      · exact ⟨.int m, rfl, rfl, .of h1, atI_nat (j := 1) rfl, kk _ (hn m (.inr ⟨rfl, h2, h3⟩)) _ H (.refl _ _) (.int _)⟩
def gSrcSet (i : Nat) (k : Int) (W : WE) : WS := fun ds N _ _ => W ds fun d => (k = 0 ∨ k = 1) ∧ (∃ p, ds[i]? = some (some (.src p))) ∧ ∃ n, d = .int n ∧ SrcN k n ∧ N ds
theorem ws_srcSet {E : XK} (hx : PE X (.Name x p1) (tVar i)) (he : PE X e (tW W)) (hs : swapsWithSole [.Subscript (.Name x p1) (.Constant (.int k) j p2) p3] e pos.line X.env = pure false := by rfl)
    (hw : swappedStores [.Subscript (.Name x p1) (.Constant (.int k) j p2) p3] e X.env = pure none := by rfl) : PS X (.Assign [.Subscript (.Name x p1) (.Constant (.int k) j p2) p3] e pos) (tSW E (gSrcSet i k W)) :=
  PS.weak (ps_asg he (pg_sub hx pe_int set_list) hs hw) fun D σ H ⟨O, ds, N, R, Z, hS, hO, hG, hN, hR, hZ⟩ => ⟨O, ds, _, hS, hO, hG, fun d hd v H1 e1 q1 => by
    obtain ⟨hk, ⟨p, hp⟩, n, rfl, hn, hd⟩ := hd
    cases q1
    have S1 := hS.mono e1
    have O1 := hO.mono e1
    obtain ⟨v, a, b⟩ := S1.val i _ hp
    cases b with
    | src hp' =>
      obtain ⟨n0, m0, h1, h2, h3⟩ := src_at O1 hp'
      have fin : ∀ y z : Int, 0 ≤ z → z < 2147483647 → D.nx σ (upd H1 p (.lst [.int y, .int z])) := fun y z hz0 hz1 => by
        have e2 : Ext O H1 (upd H1 p (.lst [.int y, .int z])) := ⟨fun c o hc h _ => by rw [upd_ne (hc _ hp')]; exact h, fun q hq h => by
          by_cases hqp : q.1 = p
          · have := O1.uq q hq _ hp' hqp
            subst this
            exact ⟨_, upd_same, y, z, rfl, hz0, hz1⟩
          · obtain ⟨o, k1, k2⟩ := h
            exact ⟨o, by rw [upd_ne hqp]; exact k1, k2.upd (noCode_of h1)⟩⟩
        exact hN ds hd σ _ (e1.trans e2) (S1.mono e2)
      refine ⟨_, a, p, [.int n0, .int m0], k, ?_⟩
      rcases hk with rfl | rfl
      · exact ⟨0, rfl, rfl, h1, rfl, fin n m0 h2 h3⟩
      · rcases hn with hn | ⟨_, hn0, hn1⟩
        · cases hn
        · exact ⟨1, rfl, rfl, h1, rfl, fin n0 n hn0 hn1⟩⟩
end
def dMulS : DOp := fun x y P => match x, y with
  | .int i, .int j => CMul i j ∧ P (.int (i * j))
  | _, _ => False
def dFdivS : DOp := fun x y P => match x, y with
  | .int i, .int j => CDiv i j ∧ P (.int (i / j))
  | _, _ => False
section
variable {X : Cx}
theorem op_dMulS : OpR X (binaryOp .Mult) (rD dMulS) := by
  intro pins s σ H x y v u Q I rx ry ⟨O, dx, dy, P, qx, qy, hO, hg, k⟩
  unfold dMulS at hg
  split at hg
  · cases qx; cases qy
    exact op_mul pins s σ H _ _ v u Q I rx ry ⟨_, _, rfl, rfl, hg.1, k _ hg.2 _ H (.refl _ _) (.int _)⟩
  · exact hg.elim
theorem op_dFdivS : OpR X (binaryOp .FloorDiv) (rD dFdivS) := by
  intro pins s σ H x y v u Q I rx ry ⟨O, dx, dy, P, qx, qy, hO, hg, k⟩
  unfold dFdivS at hg
  split at hg
  · cases qx; cases qy
    exact op_fdiv pins s σ H _ _ v u Q I rx ry ⟨_, _, rfl, rfl, hg.1, k _ hg.2 _ H (.refl _ _) (.int _)⟩
  · exact hg.elim
end
end DL

set_option maxHeartbeats 2000000
namespace DL
open PySem PySem.Spec PyProof.Rows L2
variable [TabCtx]
/-! ### {k: v, ..}.get(a, b), the keys written texts -/
def zipT : List Str → List WE → List (TE × TE)
  | k :: ks, W :: Ws => (tC (.str k), tW W) :: zipT ks Ws
  | _, _ => []
def wVals : List WE → WA
  | [] => waNil
  | W :: Ws => waCons W (wVals Ws)
def assocD : List Str → List D → Str → Option D
  | k :: ks, e :: es, q => match assocD ks es q with
    | some d => some d
    | none => if q = k then some e else none
  | _, _, _ => none
def keyed : List Str → List V → List (Key × V)
  | k :: ks, v :: vs => (Sum.inr k, v) :: keyed ks vs
  | _, _ => []
theorem assoc_rel {O : Ow} {H : Hp} {q : Str} : ∀ {ks : List Str} {vs : List V} {es : List D} (acc : List (Key × V)), DqAll O H vs es →
    (∃ v d, valV (mergeK acc (keyed ks vs)) (Sum.inr q) = some v ∧ assocD ks es q = some d ∧ Dq O H v d) ∨ (valV (mergeK acc (keyed ks vs)) (Sum.inr q) = valV acc (Sum.inr q) ∧ assocD ks es q = none)
  | [], _, _, acc, _ => .inr ⟨rfl, rfl⟩
  | k :: ks, _, _, acc, .nil => .inr ⟨rfl, rfl⟩
  | k :: ks, _, _, acc, .cons (v := v) (vs := vs) (d := e) (ds := es) a b => by
    show (∃ v' d, valV (mergeK (putK acc (Sum.inr k) v) (keyed ks vs)) (Sum.inr q) = some v' ∧ assocD (k :: ks) (e :: es) q = some d ∧ Dq O H v' d) ∨ (valV (mergeK (putK acc (Sum.inr k) v) (keyed ks vs)) (Sum.inr q) = valV acc (Sum.inr q) ∧ assocD (k :: ks) (e :: es) q = none)
    rcases assoc_rel (q := q) (ks := ks) (putK acc (Sum.inr k) v) b with ⟨v', d, h1, h2, h3⟩ | ⟨h1, h2⟩
    · exact .inl ⟨v', d, h1, by simp only [assocD, h2], h3⟩
    · rw [h1, valV_put]
      by_cases hq : q = k
      · subst hq
        exact .inl ⟨v, e, by rw [if_pos rfl], by simp only [assocD, h2, if_true], a⟩
      · refine .inr ⟨by rw [if_neg (fun z => hq (Sum.inr.inj z))], by simp only [assocD, h2, hq, if_false]⟩
theorem pairs_red {σ : L2.St} : ∀ {ks : List Str} {Ws : List WE} {O : Ow} {ds : Sl} {P : List D → Prop} {H : Hp} {Q : List (V × V) → Hp → Prop}, ks.length = Ws.length → SlD O H σ ds → OwnAll O H → wVals Ws ds P →
    (∀ es, P es → ∀ vs H', Ext O H H' → DqAll O H' vs es → Q ((keyed ks vs).map fun kv => (kV kv.1, kv.2)) H') → tPairs (zipT ks Ws) σ H Q
  | [], [], O, ds, P, H, Q, _, hS, hO, hW, k => k [] hW [] H (.refl _ _) .nil
  | q :: ks, W :: Ws, O, ds, P, H, Q, hl, hS, hO, hW, k => by
    show tW W σ H fun y H2 => tPairs (zipT ks Ws) σ H2 fun ps H3 => Q ((V.str q, y) :: ps) H3
    exact ⟨O, ds, _, hS, hO, hW, fun d hd v H1 e1 q1 => pairs_red (by simpa using hl) (hS.mono e1) (hO.mono e1) hd fun es he vs H2 e2 q2 => k _ he (v :: vs) H2 (e1.trans e2) (.cons (q1.mono e2) q2)⟩
  | [], _ :: _, _, _, _, _, _, h, _, _, _, _ => by cases h
  | _ :: _, [], _, _, _, _, _, h, _, _, _, _ => by cases h
theorem OwnAll.hold {O : Ow} {H : Hp} {p : Addr} {o : HO} (h : OwnAll O H) (op : Out O p) (hp : H p = some o) (n : NT o := by intro ps z; cases z) : OwnAll (O ++ [(p, .hold o)]) H := by
  refine ⟨fun q hq => ?_, fun q hq r hr e => ?_, h.tabs.hold n⟩
  · rcases List.mem_append.mp hq with z | z
    · exact h.here q z
    · have z' : q = (p, .hold o) := by simpa using z
      subst z'
      exact ⟨_, hp, rfl⟩
  · rcases List.mem_append.mp hq with z | z <;> rcases List.mem_append.mp hr with z' | z'
    · exact h.uq q z r z' e
    · have y : r = (p, .hold o) := by simpa using z'
      subst y
      exact absurd e.symm (op q z)
    · have y : q = (p, .hold o) := by simpa using z
      subst y
      exact absurd e (op r z')
    · have y1 : q = (p, .hold o) := by simpa using z
      have y2 : r = (p, .hold o) := by simpa using z'
      rw [y1, y2]
theorem OwnAll.less {O : Ow} {H : Hp} {p : Addr} {o : HO} (h : OwnAll (O ++ [(p, .hold o)]) H) : OwnAll O H := ⟨fun q hq => h.here q (List.mem_append_left _ hq), fun q hq r hr e => h.uq q (List.mem_append_left _ hq) r (List.mem_append_left _ hr) e, h.tabs.less⟩
theorem Ext.hold_at {O : Ow} {H H' : Hp} {p : Addr} {o : HO} (e : Ext (O ++ [(p, .hold o)]) H H') (h : H p = some o) : H' p = some o := by
  obtain ⟨u, h1, h2⟩ := e.own (p, .hold o) (by simp) ⟨_, h, rfl⟩
  have h2' : u = o := h2
  rw [← h2']
  exact h1
/-- from a heap where p was not yet, over a stretch that holds p -/
theorem Ext.drop {O : Ow} {H H' : Hp} {p : Addr} {o : HO} (e : Ext (O ++ [(p, .hold o)]) H H') {H0 : Hp} (e0 : Ext O H0 H) (n : H0 p = none) : Ext O H0 H' :=
  ⟨fun b u hb h t => e.keep b u (fun q hq => by
      rcases List.mem_append.mp hq with z | z
      · exact hb q z
      · have y : q = (p, .hold o) := by simpa using z
        subst y
        exact ne_of_none h n) (e0.keep b u hb h t) t,
    fun q hq h => e.own q (List.mem_append_left _ hq) (e0.own q hq h)⟩
def wDGet (ks : List Str) (Ws : List WE) (Wk Wd : WE) : WE := fun ds P => wVals Ws ds fun es => Wk ds fun kd => Wd ds fun xd => ∃ q, kd = .str q ∧ P ((assocD ks es q).getD xd)
section
variable {X : Cx} {e f : Expr} {Wk Wd : WE} {pos pd pa : Pos}
theorem we_dget {keys : List (Option Expr)} {values : List Expr} {trs : List (TE × TE)} {ks : List Str} {Ws : List WE} (hu : X.A.units + 1 < cLine) (hp : PPs X pd keys values trs) (ht : trs = zipT ks Ws) (hl : ks.length = Ws.length) (h15l : ks.length ≤ 15)
    (hall : keys.all (·.isSome) = true) (hkl : keys.length = values.length) (h0 : keys ≠ []) (h15 : keys.length ≤ 15) (he : PE X e (tW Wk)) (hf : PE X f (tW Wd)) (m : M2 X (.Dict keys values pd) "get" pa e f pos) :
    PE X (.Call (.Attribute (.Dict keys values pd) "get" pa) [e, f] [] pos) (tW (wDGet ks Ws Wk Wd)) := by
  subst ht
  refine PE.weak (pe_dget2 hu (pe_disp hp hall hkl h0 h15) he hf m) fun σ H Q ⟨O, ds, P, hS, hO, hW, k⟩ => fun p np => ?_
  have op := hO.out np
  have O1 : OwnAll (O ++ [(p, .hold (.dK []))]) (upd H p (.dK [])) := (hO.mono (.new np)).hold op upd_same
  have S1 : SlD (O ++ [(p, .hold (.dK []))]) (upd H p (.dK [])) σ ds := (hS.more (fresh_none np)).keep fun b o _ h _ => by
    rw [upd_ne (ne_of_none h np)]
    exact h
  refine pairs_red hl S1 O1 hW fun es hes vs H2 e2 q2 => ⟨e2.hold_at upd_same, keyed ks vs, rfl, ?_, ?_⟩
  · have : ∀ (ks : List Str) (vs : List V), (keyed ks vs).length ≤ ks.length := by
      intro ks
      induction ks with
      | nil => intro vs; exact Nat.le_refl _
      | cons k ks ih =>
        intro vs
        cases vs with
        | nil => exact Nat.zero_le _
        | cons v vs => exact Nat.succ_le_succ (ih vs)
    exact Nat.le_trans (this ks vs) h15l
  · have O2 := O1.mono e2
    have E2 : Ext O H H2 := e2.drop (.new np) np
    have neP : ∀ q ∈ O, q.1 ≠ p := fun q hq => (op q hq).symm
    have E3 : Ext O H (upd H2 p (.dK (mergeK [] (keyed ks vs)))) := ⟨fun b o hb h t => by rw [upd_ne (ne_of_none h np)]; exact E2.keep b o hb h t, fun q hq h => by
      obtain ⟨u, h1, h2⟩ := E2.own q hq h
      exact ⟨u, by rw [upd_ne (neP q hq)]; exact h1, h2.upd (noCode_of (e2.hold_at upd_same))⟩⟩
    have K3 : ∀ b o, Out (O ++ [(p, Own.hold (.dK (mergeK [] (keyed ks vs))))]) b → H2 b = some o → NT o → upd H2 p (.dK (mergeK [] (keyed ks vs))) b = some o := fun b o hb h _ => by
      rw [upd_ne (hb (p, .hold (.dK (mergeK [] (keyed ks vs)))) (by simp))]
      exact h
    have q3 := (DqAll.rehold (o' := .dK (mergeK [] (keyed ks vs))) q2).keep K3
    have O3 : OwnAll (O ++ [(p, .hold (.dK (mergeK [] (keyed ks vs))))]) (upd H2 p (.dK (mergeK [] (keyed ks vs)))) := (hO.mono E3).hold op upd_same
    have S3 : SlD (O ++ [(p, .hold (.dK (mergeK [] (keyed ks vs))))]) (upd H2 p (.dK (mergeK [] (keyed ks vs)))) σ ds := (hS.more (fresh_none np)).keep fun b o hb h t => E3.keep b o (fun q hq => hb q (List.mem_append_left _ hq)) h t
    refine ⟨p, rfl, .inl ⟨_, .of upd_same⟩, O ++ [(p, .hold (.dK (mergeK [] (keyed ks vs))))], ds, _, S3, O3, hes, fun kd hkd y H4 e4 q4 => ⟨O ++ [(p, .hold (.dK (mergeK [] (keyed ks vs))))], ds, _, S3.mono e4, O3.mono e4, hkd, fun xd hxd z H5 e5 q5 => ?_⟩⟩
    obtain ⟨q, rfl, hP⟩ := hxd
    cases q4
    have h5 := (e4.trans e5).hold_at upd_same
    have E5 : Ext O H H5 := (e4.trans e5).drop E3 np
    refine ⟨valV (mergeK [] (keyed ks vs)) (Sum.inr q), DGet.k (k := Sum.inr q) h5, ?_⟩
    rcases assoc_rel (q := q) (ks := ks) [] (q3.mono (e4.trans e5)) with ⟨v, d, h1, h2, h3⟩ | ⟨h1, h2⟩
    · rw [h2] at hP
      rw [h1]
      exact k _ hP _ H5 E5 h3.less
    · rw [h2] at hP
      rw [h1]
      exact k _ hP _ H5 E5 q5.less
end
/-! ### pure helps -/
theorem wEach_any {f : D → (D → Prop) → Prop} {Y : D → Prop} : ∀ {xs : List D} {P : List D → Prop}, (∀ x ∈ xs, ∀ P' : D → Prop, (∀ y, Y y → P' y) → f x P') → (∀ ys : List D, ys.length = xs.length → (∀ y ∈ ys, Y y) → P ys) → wEach f xs P
  | [], P, _, h => h [] rfl fun _ z => nomatch z
  | x :: xs, P, hf, h => hf x List.mem_cons_self _ fun y hy => wEach_any (fun z hz => hf z (List.mem_cons_of_mem _ hz)) fun ys hl hys => h (y :: ys) (by rw [List.length_cons, List.length_cons, hl]) fun z hz => by
    rcases List.mem_cons.mp hz with e | e
    · rw [e]
      exact hy
    · exact hys z e
theorem at_some {α : Type} {xs : List α} {r : Int} (h0 : 0 ≤ r) (h1 : r < xs.length) : ∃ d, L2.atI xs r = some d ∧ d ∈ xs := by
  have hn : r.toNat < xs.length := by omega
  refine ⟨xs[r.toNat], ?_, List.getElem_mem hn⟩
  have e : ((r.toNat : Nat) : Int) = r := by omega
  have := atI_nat (xs := xs) (j := r.toNat) (v := xs[r.toNat]) (by simp [hn])
  rwa [e] at this
theorem intsD_len (n : Nat) : (intsD n).length = n := by simp [intsD]
theorem mem_intsD {n : Nat} {x : D} (h : x ∈ intsD n) : ∃ k : Nat, k < n ∧ x = .int (k : Int) := by
  unfold intsD at h
  obtain ⟨k, hk, e⟩ := List.mem_map.mp h
  exact ⟨k, List.mem_range.mp hk, e.symm⟩
end DL

set_option maxHeartbeats 2000000
namespace DL
open PySem PySem.Spec PyProof.Rows L2
variable [TabCtx]
/-! ### data small enough to be compared and written -/
def gs : Nat → D → Bool
  | _, .non => true
  | _, .bl _ => true
  | _, .int i => decide (i.natAbs.log2 < 200)
  | _, .str x => decide (x.length ≤ 20) && PyData.strOk x
  | n + 1, .lst xs => decide (xs.length ≤ 12) && xs.all (gs n)
  | n + 1, .tup xs => decide (xs.length ≤ 12) && xs.all (gs n)
  | _, _ => false
/-- how long it is written at most -/
def bsz : Nat → Nat
  | 0 => 250
  | n + 1 => 12 * (bsz n + 2) + 4
structure Wr (n : Nat) (d : D) : Prop where
  pl : d.pl = true
  lay : d.py.canLay0 = true
  dep : d.py.depth ≤ n
  sh : d.py.showable = true
  nd : d.py.hasDict = false
  sz : d.py.shown.length ≤ bsz n
theorem bsz_ge (n : Nat) : 250 ≤ bsz n := by
  induction n with
  | zero => exact Nat.le_refl _
  | succ n ih => unfold bsz; omega
theorem listText_le (ts : List Str) : (listText ts).length ≤ piled ts + 4 := by
  unfold listText
  rw [strLen_append]
  have e : (("]" : Str)).length = 1 := by decide
  rw [e]
  cases ts with
  | nil => decide
  | cons t r =>
    have h := textFrom_length_pos r 1 (("[" : Str) ++ (if (0 : Nat) > 0 then ", " else "" : String) ++ t) (Nat.succ_pos 0)
    have e2 : ((("[" : Str) ++ (if (0 : Nat) > 0 then ", " else "" : String) ++ t)).length = 1 + t.length := by
      rw [strLen_append, strLen_append]; rfl
    have e3 : textFrom 0 "[" (t :: r) = textFrom (0 + 1) (("[" : Str) ++ (if (0 : Nat) > 0 then ", " else "" : String) ++ t) r := rfl
    rw [e3, h, e2, piled_cons]
    omega
theorem wr_all {n : Nat} (ih : ∀ d, gs n d = true → Wr n d) : ∀ xs : List D, (∀ x ∈ xs, gs n x = true) → D.pls xs = true ∧ PyData.canLayAll0 (D.pys xs) = true ∧ PyData.depthAll (D.pys xs) ≤ n ∧ PyData.showableAll (D.pys xs) = true ∧ PyData.hasDictAll (D.pys xs) = false ∧
    piled (PyData.shownAll (D.pys xs)) ≤ xs.length * (bsz n + 2)
  | [], _ => ⟨by simp [D.pls], by simp [D.pys, PyData.canLayAll0], by simp [D.pys, PyData.depthAll], by simp [D.pys, PyData.showableAll], by simp [D.pys, PyData.hasDictAll], by simp [D.pys, PyData.shownAll, piled]⟩
  | x :: xs, h => by
    obtain ⟨a1, a2, a3, a4, a5, a6⟩ := ih x (h x List.mem_cons_self)
    obtain ⟨b1, b2, b3, b4, b5, b6⟩ := wr_all ih xs fun y hy => h y (List.mem_cons_of_mem _ hy)
    refine ⟨by simp [D.pls, a1, b1], by simp [D.pys, PyData.canLayAll0, a2, b2], by simp only [D.pys, PyData.depthAll]; omega, by simp [D.pys, PyData.showableAll, a4, b4], by simp [D.pys, PyData.hasDictAll, a5, b5], ?_⟩
    simp only [D.pys, PyData.shownAll]
    rw [piled_cons, List.length_cons, Nat.succ_mul]
    omega
theorem wr_of : ∀ (n : Nat) (d : D), gs n d = true → Wr n d := by
  intro n
  induction n with
  | zero =>
    intro d h
    cases d with
    | non => exact ⟨rfl, rfl, Nat.zero_le _, rfl, rfl, by decide⟩
    | bl b => exact ⟨rfl, rfl, Nat.zero_le _, rfl, rfl, by cases b <;> decide⟩
    | int i =>
      simp only [gs, decide_eq_true_eq] at h
      refine ⟨rfl, rfl, Nat.zero_le _, ?_, rfl, ?_⟩
      · simp only [D.py, PyData.showable, decide_eq_true_eq]
        omega
      · have := int_text_length_le (k := 200) (by decide) h
        simp only [D.py, PyData.shown, bsz]
        rw [PySem.ofString_length]
        omega
    | str x =>
      simp only [gs, Bool.and_eq_true, decide_eq_true_eq] at h
      refine ⟨rfl, h.2, Nat.zero_le _, rfl, rfl, ?_⟩
      have h2 : ∀ c ∈ x.cps.toList, c < 16 ^ 8 := fun c hc => by
        have h3 := h.2
        unfold PyData.strOk at h3
        simp only [Array.all_eq_true'] at h3
        have h4 := h3 c (by simpa using hc)
        simp only [decide_eq_true_eq] at h4
        exact Nat.lt_of_lt_of_le h4 (by decide)
      have := StrLaws.reprText_len x h2
      simp only [D.py, PyData.shown, bsz]
      omega
    | lst _ => simp [gs] at h
    | tup _ => simp [gs] at h
    | src _ => simp [gs] at h
    | fn _ => simp [gs] at h
    | exn _ _ _ => simp [gs] at h
    | sq _ _ => simp [gs] at h
    | ins _ _ _ => simp [gs] at h
    | dct _ _ => simp [gs] at h
  | succ n ih =>
    intro d h
    have hb := bsz_ge (n + 1)
    cases d with
    | non => exact ⟨rfl, rfl, Nat.zero_le _, rfl, rfl, Nat.le_trans (by decide) hb⟩
    | bl b => exact ⟨rfl, rfl, Nat.zero_le _, rfl, rfl, Nat.le_trans (by cases b <;> decide) hb⟩
    | int i =>
      simp only [gs, decide_eq_true_eq] at h
      refine ⟨rfl, rfl, Nat.zero_le _, ?_, rfl, ?_⟩
      · simp only [D.py, PyData.showable, decide_eq_true_eq]
        omega
      · have := int_text_length_le (k := 200) (by decide) h
        simp only [D.py, PyData.shown]
        rw [PySem.ofString_length]
        omega
    | str x =>
      simp only [gs, Bool.and_eq_true, decide_eq_true_eq] at h
      refine ⟨rfl, h.2, Nat.zero_le _, rfl, rfl, ?_⟩
      have h2 : ∀ c ∈ x.cps.toList, c < 16 ^ 8 := fun c hc => by
        have h3 := h.2
        unfold PyData.strOk at h3
        simp only [Array.all_eq_true'] at h3
        have h4 := h3 c (by simpa using hc)
        simp only [decide_eq_true_eq] at h4
        exact Nat.lt_of_lt_of_le h4 (by decide)
      have := StrLaws.reprText_len x h2
      simp only [D.py, PyData.shown]
      omega
    | lst xs =>
      simp only [gs, Bool.and_eq_true, decide_eq_true_eq, List.all_eq_true] at h
      obtain ⟨b1, b2, b3, b4, b5, b6⟩ := wr_all ih xs h.2
      refine ⟨by simp [D.pl, b1], by simp [D.py, PyData.canLay0, b2], by simp only [D.py, PyData.depth]; omega, by simp [D.py, PyData.showable, b4], by simp [D.py, PyData.hasDict, b5], ?_⟩
      have h1 := listText_le (PyData.shownAll (D.pys xs))
      have h2 := Nat.mul_le_mul_right (bsz n + 2) h.1
      simp only [D.py, PyData.shown, bsz]
      omega
    | tup xs =>
      simp only [gs, Bool.and_eq_true, decide_eq_true_eq, List.all_eq_true] at h
      obtain ⟨b1, b2, b3, b4, b5, b6⟩ := wr_all ih xs h.2
      refine ⟨by simp [D.pl, b1], by simp [D.py, PyData.canLay0, b2], by simp only [D.py, PyData.depth]; omega, by simp [D.py, PyData.showable, b4], by simp [D.py, PyData.hasDict, b5], ?_⟩
      have h1 := fmt_text (PyData.shownAll (D.pys xs))
      have h2 := Nat.mul_le_mul_right (bsz n + 2) h.1
      simp only [D.py, PyData.shown, bsz]
      omega
    | src _ => simp [gs] at h
    | fn _ => simp [gs] at h
    | exn _ _ _ => simp [gs] at h
    | sq _ _ => simp [gs] at h
    | ins _ _ _ => simp [gs] at h
    | dct _ _ => simp [gs] at h
theorem gs_gd : ∀ {n : Nat} {d : D}, gs n d = true → gd n d = true := by
  intro n
  induction n with
  | zero =>
    intro d h
    cases d <;> simp only [gs, gd, Bool.and_eq_true, decide_eq_true_eq] at h ⊢
    · omega
    · exact ⟨by omega, h.2⟩
    all_goals cases h
  | succ n ih =>
    intro d h
    cases d <;> simp only [gs, gd, Bool.and_eq_true, decide_eq_true_eq, List.all_eq_true] at h ⊢
    · omega
    · exact ⟨by omega, h.2⟩
    · exact ⟨by omega, fun x hx => ih (h.2 x hx)⟩
    · exact ⟨by omega, fun x hx => ih (h.2 x hx)⟩
    all_goals cases h
theorem gd_le {n m : Nat} {d : D} (h : n ≤ m) (g : gd n d = true) : gd m d = true := by
  induction h with
  | refl => exact g
  | step _ ih => exact gd_up ih
theorem gs_up : ∀ {n : Nat} {d : D}, gs n d = true → gs (n + 1) d = true := by
  intro n
  induction n with
  | zero => intro d h; cases d <;> simp [gs] at h ⊢ <;> exact h
  | succ n ih =>
    intro d h
    cases d with
    | lst xs =>
      simp only [gs, Bool.and_eq_true, List.all_eq_true] at h ⊢
      exact ⟨h.1, fun x hx => ih (h.2 x hx)⟩
    | tup xs =>
      simp only [gs, Bool.and_eq_true, List.all_eq_true] at h ⊢
      exact ⟨h.1, fun x hx => ih (h.2 x hx)⟩
    | _ => simpa [gs] using h
theorem gs_le {n m : Nat} {d : D} (h : n ≤ m) (g : gs n d = true) : gs m d = true := by
  induction h with
  | refl => exact g
  | step _ ih => exact gs_up ih
/-- small data, as the laws draw it -/
def Sm (d : D) : Prop := gs 3 d = true
theorem Sm.good {d : D} (h : Sm d) : Good d := gd_le (by decide) (gs_gd h)
theorem Sm.okEq {d : D} (h : Sm d) : okEq d := ⟨(wr_of 3 d h).pl, by
  have w := wr_of 3 d h
  unfold SeqAt.shaped
  rw [w.lay, decide_eq_true (by have := w.dep; omega)]
  rfl⟩
theorem Sm.wr {d : D} (h : Sm d) {P : D → Prop} (p : P (.str d.py.shown)) : fRepr [d] P := by
  have w := wr_of 3 d h
  refine ⟨w.pl, w.sh, w.nd, by have := w.dep; omega, ?_, p⟩
  have := w.sz
  rw [sizeLine_eq]
  have e : bsz 3 = 436396 := by decide
  omega
theorem eqD_self {d : D} (h : okEq d) : eqD d d = true := SeqAt.eqv_refl d.py (by have h2 := h.2; unfold SeqAt.shaped at h2; exact (Bool.and_eq_true _ _ ▸ h2).1)
theorem cut_drop (xs : List D) (k : Nat) : cutD xs (some (k : Int)) none = xs.drop k := by
  unfold cutD
  rw [HT.sIx_nat, HT.sIx_none]
  by_cases h : k ≤ xs.length
  · rw [Nat.min_eq_left h, List.take_of_length_le (by rw [List.length_drop]; omega)]
  · rw [Nat.min_eq_right (by omega), List.drop_length, List.drop_eq_nil_of_le (by omega)]
    simp
theorem cut_1 (x : D) (r : List D) : cutD (x :: r) (some 1) none = r := cut_drop (x :: r) 1
theorem cut_take (xs : List D) (k : Nat) : cutD xs none (some (k : Int)) = xs.take k := by
  unfold cutD
  rw [HT.sIx_nat, HT.sIx_none]
  rw [List.drop_zero, Nat.sub_zero]
  by_cases h : k ≤ xs.length
  · rw [Nat.min_eq_left h]
  · rw [Nat.min_eq_right (by omega), List.take_of_length_le (Nat.le_refl _), List.take_of_length_le (by omega)]
end DL

set_option maxHeartbeats 2000000
namespace DL
open PySem PySem.Spec PyProof.Rows L2
variable [TabCtx]
/-! ### try .. except C as e, the exception a piece of data -/
theorem SlD.unset {O : Ow} {H : Hp} {σ : L2.St} {ds : Sl} (h : SlD O H σ ds) (i : Nat) : SlD O H (σ.set i none) (ds.set i none) :=
  ⟨by rw [List.length_set, List.length_set, h.len], fun j e he => by
    by_cases hj : i = j
    · subst hj
      by_cases hi : i < ds.length
      · rw [List.getElem?_set_self hi] at he
        cases he
      · rw [List.getElem?_eq_none (by rw [List.length_set]; omega)] at he
        cases he
    · rw [List.getElem?_set_ne hj] at he
      obtain ⟨u, a, b⟩ := h.val j e he
      exact ⟨u, by rw [List.getElem?_set_ne hj]; exact a, b⟩⟩
/-- what an own error class must have -/
structure Ex2 (K : PySem.W.Frag) (C M : Addr) : Prop where
  xf : XfC K C
  no : PySem.W.findIn K (.ref C) "told" = some none
  ex : ExcC K C
  em : PySem.W.exmOne K (.ref C) (.ref C) = some true
  ki : PySem.W.kitOne K (.ref C) (.ref M) = some true
def wTold (a : Addr) (cls : Value) (d : Option Addr) (C : Addr) (W : WE) : WE := fun ds P => W ds fun x => ∃ dd t, x = .exn a dd t ∧ cls = .ref C ∧ d = some dd ∧ P t
def fIsE (a : Addr) (cls : Value) (d : Option Addr) (C M : Addr) : DFn := fun es P => ∃ dd t, es = [.exn a dd t, .fn M] ∧ cls = .ref C ∧ d = some dd ∧ P (.bl true)
section
variable {X : Cx} {a C M : Addr} {oe : Obj} {cls : Value} {d : Option Addr} {pn : List (Addr × Obj)} {e : Expr} {W : WE} {pos : Pos}
theorem we_told (T : Ex2 X.K C M) (hz : Zc cls d oe) (hf : ∃ vs, oe.data = .fields vs) (he : PE (X.suite a ((a, oe) :: pn)) e (tW W)) (hb : attributeBase e "told" X.env (eval e X.env) = eval e X.env := by rfl) :
    PE (X.suite a ((a, oe) :: pn)) (.Attribute e "told" pos) (tW (wTold a cls d C W)) :=
  PE.weak (pe_xf T.xf T.no hz hf he hb) fun σ H Q ⟨O, ds, P, hS, hO, hW, k⟩ => ⟨O, ds, _, hS, hO, hW, fun x hx v H1 e1 q1 => by
    obtain ⟨dd, t, rfl, hc, hd, p⟩ := hx
    cases q1 with
    | exn x r q => exact ⟨rfl, hc, dd, _, _, hd, r, rfl, k _ p _ H1 e1 q⟩⟩
theorem call_isX (T : Ex2 X.K C M) (hz : Zc cls d oe) (hf : ∃ vs, oe.data = .fields vs) : CallR (X.suite a ((a, oe) :: pn)) (.builtin "isinstance") (rF (fIsE a cls d C M)) := by
  intro pins s σ H xs us Q I r ⟨O, es, P, hq, hO, ⟨dd, t, he, hc, hd, p⟩, k⟩
  subst he
  subst hc
  subst hd
  cases hq with
  | cons q1 qr =>
    cases qr with
    | cons q2 qr2 =>
      cases qr2
      cases q1 with
      | exn x1 r1 q =>
        cases q2
        cases r with
        | cons ra rb =>
          cases rb with
          | cons rc rd =>
            cases rd
            cases ra
            cases rc
            obtain ⟨at_, _⟩ := I.pin (a, oe) (List.mem_append.mpr (.inl List.mem_cons_self))
            obtain ⟨vs, hv⟩ := hf
            obtain ⟨mA, hns, _⟩ : ObjOk _ _ _ _ dd (.xd _) := I.hok dd _ r1
            obtain ⟨od, ho, _⟩ := lookIn_ns hns
            have J : PySem.W.InstAt s.heap a oe C (some od) := ⟨at_, hz.1, (by unfold PySem.W.notCls; rw [hv] <;> rfl), (by rw [hz.2]; exact ho)⟩
            obtain ⟨cd, hcd, _⟩ := PySem.W.any_some T.ex.hd
            exact PySem.W.kia_one (PySem.W.kitx_exc (by rw [hcd]; rfl) T.ex.hg T.ex.hk T.ex.hs T.ex.ha T.ex.hn T.ex.ht T.ex.hm) I.kIn J T.ki (fun z => nomatch z) fun tk => ⟨.bl true, H, I.kept (t' := tk) fun _ _ z => z, rfl, k _ p _ H (.refl _ _) (.bl true)⟩
end
/-! ### expressions that may raise -/
abbrev WZ := Sl → (D → Prop) → (Addr → D → Prop) → Prop
def tZW (W : WX) (B : WZ) : TE := fun σ H Q => ∃ (O : Ow) (ds : Sl) (P : D → Prop) (Z : Addr → D → Prop), SlD O H σ ds ∧ OwnAll O H ∧ B ds P Z ∧ (∀ d, P d → ∀ v H', Ext O H H' → Dq O H' v d → Q v H') ∧
  ∀ C t, Z C t → ∀ dx v H', Ext O H H' → Out O dx → H' dx = some (.xd [("told", v)]) → Dq O H' v t → W (.ref C) (some dx) σ H'
def wzCall (g : DSp) (A : WA) : WZ := fun ds P Z => A ds fun es => g es P Z
def wzCallL (i : Nat) (ok : Addr → Prop) (g : DSp) (A : WA) : WZ := fun ds P Z => ∃ f, ds[i]? = some (some (.fn f)) ∧ ok f ∧ A ds fun es => g es P Z
section
variable {X : Cx} {k i : Nat} {f : Addr} {fd : FuncData} {ps : List Str} {x : Str} {p pos : Pos} {e : Expr} {es : List Expr} {A : WA} {g : DSp} {W : WX} {ok : Addr → Prop} {CX : CXT} {sp : Sp} {E : L2.St → XK} {t : TA}
theorem zred {σ : L2.St} {H : Hp} {Q : VK} {O : Ow} {ds : Sl} {P : D → Prop} {Z : Addr → D → Prop} (hS : SlD O H σ ds) (hO : OwnAll O H) (hA : A ds fun es => g es P Z) (hP : ∀ d, P d → ∀ v H', Ext O H H' → Dq O H' v d → Q v H')
    (hZ : ∀ C t, Z C t → ∀ dx v H', Ext O H H' → Out O dx → H' dx = some (.xd [("told", v)]) → Dq O H' v t → W (.ref C) (some dx) σ H') : tAW A σ H fun vs H1 => spD g vs H1 Q (L2.WE W σ) :=
  ⟨O, ds, _, hS, hO, hA, fun es he vs H1 e1 q1 => ⟨O, es, P, Z, q1, hO.mono e1, he, fun d hd v H2 e2 q2 => hP d hd v H2 (e1.trans e2) q2, fun C t z dx v H2 e2 ox hx q2 => hZ C t z dx v H2 (e1.trans e2) ox hx q2⟩⟩
theorem we_zcall (F : FnOk X.prog X.w X.K X.mg X.base (L2.CX X.prog X.w) k f fd ps (spD g)) (hr : Room k X.A) (tk : Takes X W) (hg : Gl X x) (hm : X.mg x = some (.ref f)) (hk : PySem.W.keepIn X.K (.ref f) = true) (hb : Binds X.K fd ps [])
    (ha : PA X (e :: es) (tAW A)) (hdb : (x == ("__debug__" : Str)) = false := by decide) (he : starEach (e :: es) X.env = (false, eval e X.env) :: starEach es X.env := by rfl) (hpl : (backTo pos (starEach es X.env)).any (·.1) = false := by rfl) :
    PE X (.Call (.Name x p) (e :: es) [] pos) (tZW W (wzCall g A)) :=
  PE.weak (pe_callS F hr hg hm hk hb (fun σ => passAt tk σ) ha hdb he hpl) fun σ H Q ⟨O, ds, P, Z, hS, hO, hA, hP, hZ⟩ => zred hS hO hA hP hZ
def tCallLS (i : Nat) (ok : Addr → Prop) (sp : Sp) (E : L2.St → XK) (t : TA) : TE := fun σ H Q => ∃ f, σ[i]? = some (some (.ref f)) ∧ ok f ∧ t σ H fun vs H1 => sp vs H1 Q (E σ)
theorem pe_callLS (A : ∀ f, ok f → ∃ fd ps, FnOk X.prog X.w X.K X.mg X.base CX k f fd ps sp ∧ PySem.W.keepIn X.K (.ref f) = true ∧ Binds X.K fd ps []) (room : Room k X.A) (hN : X.N[i]? = some x) (hv : Vis X.env.scope x) (hx : ∀ σ, PassesAt CX X σ (E σ))
    (ha : PA X (e :: es) t) (hdb : (x == ("__debug__" : Str)) = false := by decide) (hcd : (x == ("__classdict__" : Str)) = false := by decide)
    (he : starEach (e :: es) X.env = (false, eval e X.env) :: starEach es X.env := by rfl) (hpl : (backTo pos (starEach es X.env)).any (·.1) = false := by rfl) : PE X (.Call (.Name x p) (e :: es) [] pos) (tCallLS i ok sp E t) := by
  refine ⟨fun pins s σ H Q inv ⟨f, hf, hok, ht⟩ => ?_⟩
  obtain ⟨fd, ps, F, keeps, binds⟩ := A f hok
  refine wpAny_Call_Name_kw (thn ((pe_var (pos := p) hN hv hdb hcd).run pins s σ H (fun v' H' => v' = .ref f ∧ H' = H) inv ⟨.ref f, hf, rfl, rfl⟩) fun u' s' ⟨v', H', inv', rv, rest⟩ => ?_)
  cases rest.1
  cases rest.2
  cases rv
  exact PySem.W.callWith_K (h₀ := X.base) inv.ok.mod.kin keeps (thn (ha.run pos pins s' σ _ _ inv' ht) fun us' s'' ⟨vs', H'', inv'', rvs, q''⟩ => ⟨inv''.kIn, run_fnS F room binds (hx σ) inv'' rvs q''⟩) he hpl
theorem we_zcallL (F : ∀ f, ok f → ∃ fd ps, FnOk X.prog X.w X.K X.mg X.base (L2.CX X.prog X.w) k f fd ps (spD g) ∧ PySem.W.keepIn X.K (.ref f) = true ∧ Binds X.K fd ps []) (hr : Room k X.A) (tk : Takes X W) (hN : X.N[i]? = some x) (hv : Vis X.env.scope x)
    (ha : PA X (e :: es) (tAW A)) (hdb : (x == ("__debug__" : Str)) = false := by decide) (hcd : (x == ("__classdict__" : Str)) = false := by decide)
    (he : starEach (e :: es) X.env = (false, eval e X.env) :: starEach es X.env := by rfl) (hpl : (backTo pos (starEach es X.env)).any (·.1) = false := by rfl) : PE X (.Call (.Name x p) (e :: es) [] pos) (tZW W (wzCallL i ok g A)) :=
  PE.weak (pe_callLS F hr hN hv (fun σ => passAt tk σ) ha hdb hcd he hpl) fun σ H Q ⟨O, ds, P, Z, hS, hO, ⟨f, hf, hok, hA⟩, hP, hZ⟩ => by
    obtain ⟨v, h1, h2⟩ := hS.val i _ hf
    cases h2
    exact ⟨f, h1, hok, zred hS hO hA hP hZ⟩
end
/-! ### try: a statement of one such expression -/
def gTryRet (i : Nat) (C : Addr) (GS : Addr → Value → Option Addr → WS) (B : WZ) : WS := fun ds N R _ => B ds R fun C' t => C' = C ∧ ∀ a dd, GS a (.ref C) (some dd) (ds.set i (some (.exn a dd t))) (fun ds' => N (ds'.set i none)) R fun _ _ => False
def gTryDrop (i : Nat) (C : Addr) (GS : Addr → Value → Option Addr → WS) (B : WZ) : WS := fun ds N R _ => B ds (fun _ => N ds) fun C' t => C' = C ∧ ∀ a dd, GS a (.ref C) (some dd) (ds.set i (some (.exn a dd t))) (fun ds' => N (ds'.set i none)) R fun _ _ => False
section
variable {X : Cx} {x n : Str} {C M : Addr} {i : Nat} {suite : List Stmt} {b₀ : Stmt} {np pos p1 pos' : Pos} {GS : Addr → Value → Option Addr → WS} {B : WZ} {ec : Expr} {E : XK}
theorem ws_tryRet (T : Ex2 X.K C M) (hs : X.stack = X.env :: X.outer) (hf : X.env.frame = some X.env.locals) (hN : X.N.Nodup) (hi : X.N[i]? = some n) (hln : X.env.kindOf n = some .local) (hc : Names X x (.ref C))
    (hb : ∀ (W : WX) (pn : List (Addr × Obj)) (xe : Value → Shared → Prop), Takes (X.tr pn xe) W → PE (X.tr pn xe) ec (tZW W B))
    (hsu : ∀ (a : Addr) (oe : Obj) (cls : Value) (d : Option Addr) (pn : List (Addr × Obj)), Zc cls d oe → (∃ vs, oe.data = .fields vs) → PSs (X.suite a ((a, oe) :: pn)) (b₀ :: suite) (tSW (fun _ _ _ => False) (GS a cls d))) :
    PS X (.Try [.Return (some ec) p1] [.ExceptHandler (some (.Name x np)) (some n) (b₀ :: suite) pos'] [] [] pos) (tSW E (gTryRet i C GS B)) :=
  PS.weak (ps_try_as (i := i) (tb := fun W => tRet (tZW W B)) (ts := fun a cls d => tSW (fun _ _ _ => False) (GS a cls d)) (Wout := fun _ _ _ _ => False) hs hf hN hi hln hc takes0 (fun W pn xe tk _ => pss_one (ps_ret (hb W pn xe tk))) hsu)
    fun D σ H ⟨O, ds, N, R, Z, hS, hO, hG, hNx, hR, hZ⟩ => ⟨O, ds, R, _, hS, hO, hG, hR, fun C' t z dx v H' e1 ox hx q1 => by
      obtain ⟨rfl, hz⟩ := z
      exact ⟨true, T.em, fun _ a _ => ⟨O, _, _, R, _, (hS.mono e1).set i (.exn ox hx q1), hO.mono e1, hz a dx, fun ds' hd σ' H2 e2 s2 => hNx _ hd _ H2 (e1.trans e2) (s2.unset i), fun d hd v H2 e2 q2 => hR d hd v H2 (e1.trans e2) q2, fun _ _ z => z.elim⟩, fun z => nomatch z⟩⟩
theorem ws_tryDrop (T : Ex2 X.K C M) (hs : X.stack = X.env :: X.outer) (hf : X.env.frame = some X.env.locals) (hN : X.N.Nodup) (hi : X.N[i]? = some n) (hln : X.env.kindOf n = some .local) (hc : Names X x (.ref C))
    (hb : ∀ (W : WX) (pn : List (Addr × Obj)) (xe : Value → Shared → Prop), Takes (X.tr pn xe) W → PE (X.tr pn xe) ec (tZW W B))
    (hsu : ∀ (a : Addr) (oe : Obj) (cls : Value) (d : Option Addr) (pn : List (Addr × Obj)), Zc cls d oe → (∃ vs, oe.data = .fields vs) → PSs (X.suite a ((a, oe) :: pn)) (b₀ :: suite) (tSW (fun _ _ _ => False) (GS a cls d)))
    (hw : swapsWith ec none p1.line X.env = pure false := by rfl) :
    PS X (.Try [.Expr ec p1] [.ExceptHandler (some (.Name x np)) (some n) (b₀ :: suite) pos'] [] [] pos) (tSW E (gTryDrop i C GS B)) :=
  PS.weak (ps_try_as (i := i) (tb := fun W => tDrop (tZW W B)) (ts := fun a cls d => tSW (fun _ _ _ => False) (GS a cls d)) (Wout := fun _ _ _ _ => False) hs hf hN hi hln hc takes0 (fun W pn xe tk _ => pss_one (ps_expr (hb W pn xe tk) hw)) hsu)
    fun D σ H ⟨O, ds, N, R, Z, hS, hO, hG, hNx, hR, hZ⟩ => ⟨O, ds, _, _, hS, hO, hG, fun d hd v H' e1 _ => hNx ds hd σ H' e1 (hS.mono e1), fun C' t z dx v H' e1 ox hx q1 => by
      obtain ⟨rfl, hz⟩ := z
      exact ⟨true, T.em, fun _ a _ => ⟨O, _, _, R, _, (hS.mono e1).set i (.exn ox hx q1), hO.mono e1, hz a dx, fun ds' hd σ' H2 e2 s2 => hNx _ hd _ H2 (e1.trans e2) (s2.unset i), fun d hd v H2 e2 q2 => hR d hd v H2 (e1.trans e2) q2, fun _ _ z => z.elim⟩, fun z => nomatch z⟩⟩
end
/-- a weaker promise -/
theorem FnOk.weak {P : Program} {w : World} {K : PySem.W.Frag} {mg : Str → Option Value} {base : Heap} {CX : CXT} {k : Nat} {f : Addr} {fd : FuncData} {ps : List Str} {sp sp' : Sp} (F : FnOk P w K mg base CX k f fd ps sp) (h : ∀ vs H Q E, sp' vs H Q E → sp vs H Q E) :
    FnOk P w K mg base CX k f fd ps sp' := ⟨fun vs H Q E z => F.len vs H Q E (h _ _ _ _ z), fun A outer s H ar us vs Q E hr ev hb hv z => F.run A outer s H ar us vs Q E hr ev hb hv (h _ _ _ _ z)⟩
theorem FnOk.up {P : Program} {w : World} {K : PySem.W.Frag} {mg : Str → Option Value} {base : Heap} {CX : CXT} {k k' : Nat} {f : Addr} {fd : FuncData} {ps : List Str} {sp : Sp} (F : FnOk P w K mg base CX k f fd ps sp) (h : k ≤ k') :
    FnOk P w K mg base CX k' f fd ps sp := ⟨F.len, fun A outer s H ar us vs Q E hr ev hb hv z => F.run A outer s H ar us vs Q E (hr.mono h) ev hb hv z⟩
theorem boot_isinstanceB : bootBuiltins "isinstance" = some (.builtin "isinstance") := by decide +kernel
end DL

set_option maxHeartbeats 2000000
namespace DL
open PySem PySem.Spec PyProof.Rows L2
variable [TabCtx]
/-! ### a fresh list that a loop writes to: held by its address, its slot a mere token the while -/
theorem OwnAll.put {O : Ow} {H : Hp} {p : Addr} {o o' : HO} (h : OwnAll (O ++ [(p, .hold o)]) H) (op : Out O p) (n : ∀ φ, o ≠ .ext φ := by intro φ z; cases z) (n2 : NT o' := by intro ps z; cases z) : OwnAll (O ++ [(p, .hold o')]) (upd H p o') :=
  OwnAll.hold (O := O) ⟨fun q hq => by
    obtain ⟨u, hu, k⟩ := h.less.here q hq
    obtain ⟨u2, hu2, k2⟩ := h.here (p, .hold o) (by simp)
    have k2' : u2 = o := k2
    rw [k2'] at hu2
    exact ⟨u, by rw [upd_ne (fun e => op q hq e.symm)]; exact hu, k.upd (noCode_of hu2 n)⟩, h.less.uq, h.less.tabs⟩ op upd_same n2
theorem SlD.rehold {O : Ow} {H : Hp} {σ : L2.St} {ds : Sl} {p : Addr} {o o' : HO} (h : SlD (O ++ [(p, .hold o)]) H σ ds) : SlD (O ++ [(p, .hold o')]) H σ ds :=
  ⟨h.len, fun i d hd => by
    obtain ⟨v, a, b⟩ := h.val i d hd
    exact ⟨v, a, b.rehold⟩⟩
theorem SlD.less {O : Ow} {H : Hp} {σ : L2.St} {ds : Sl} {p : Addr} {o : HO} (h : SlD (O ++ [(p, .hold o)]) H σ ds) : SlD O H σ ds :=
  ⟨h.len, fun i d hd => by
    obtain ⟨v, a, b⟩ := h.val i d hd
    exact ⟨v, a, b.less⟩⟩
theorem SlD.put {O : Ow} {H : Hp} {σ : L2.St} {ds : Sl} {i : Nat} {v : V} {d : D} (h : SlD O H σ ds) (hv : σ[i]? = some (some v)) (q : Dq O H v d) : SlD O H σ (ds.set i (some d)) :=
  ⟨by rw [List.length_set, h.len], fun j e he => by
    by_cases hj : i = j
    · subst hj
      by_cases hi : i < ds.length
      · rw [List.getElem?_set_self hi] at he
        cases he
        exact ⟨v, hv, q⟩
      · rw [List.getElem?_eq_none (by rw [List.length_set]; omega)] at he
        cases he
    · rw [List.getElem?_set_ne hj] at he
      exact h.val j e he⟩
theorem DqAll.set {O : Ow} {H : Hp} {v : V} {d : D} (q : Dq O H v d) : ∀ {vs : List V} {ds : List D} (k : Nat), DqAll O H vs ds → DqAll O H (vs.set k v) (ds.set k d)
  | _, _, _, .nil => .nil
  | _, _, 0, .cons _ b => .cons q b
  | _, _, k + 1, .cons a b => .cons a (b.set q k)
theorem Out.hold_ne {O : Ow} {p b : Addr} {o : HO} (h : Out (O ++ [(p, .hold o)]) b) : b ≠ p := h (p, .hold o) (by simp)
theorem Out.hold_out {O : Ow} {p b : Addr} {o : HO} (h : Out (O ++ [(p, .hold o)]) b) : Out O b := fun q hq => h q (List.mem_append_left _ hq)
structure Hd (O : Ow) (p : Addr) (vs : List V) (H : Hp) (σ : L2.St) (ds : Sl) (dv : List D) : Prop where
  sl : SlD (O ++ [(p, .hold (.lst vs))]) H σ ds
  al : DqAll (O ++ [(p, .hold (.lst vs))]) H vs dv
  ow : OwnAll (O ++ [(p, .hold (.lst vs))]) H
theorem Hd.mono {O : Ow} {p : Addr} {vs : List V} {H H' : Hp} {σ : L2.St} {ds : Sl} {dv : List D} (h : Hd O p vs H σ ds dv) (e : Ext (O ++ [(p, .hold (.lst vs))]) H H') : Hd O p vs H' σ ds dv := ⟨h.sl.mono e, h.al.mono e, h.ow.mono e⟩
theorem Hd.at {O : Ow} {p : Addr} {vs : List V} {H : Hp} {σ : L2.St} {ds : Sl} {dv : List D} (h : Hd O p vs H σ ds dv) : H p = some (.lst vs) := by
  obtain ⟨u, h1, h2⟩ := h.ow.here (p, .hold (.lst vs)) (by simp)
  have h2' : u = .lst vs := h2
  rw [← h2']
  exact h1
theorem Hd.store {O : Ow} {p : Addr} {vs : List V} {H : Hp} {σ : L2.St} {ds : Sl} {dv : List D} (h : Hd O p vs H σ ds dv) (op : Out O p) {v : V} {d : D} (k : Nat) (q : Dq (O ++ [(p, .hold (.lst vs))]) H v d) :
    Hd O p (vs.set k v) (upd H p (.lst (vs.set k v))) σ ds (dv.set k d) := by
  have kp : ∀ b o, Out (O ++ [(p, Own.hold (.lst vs))]) b → H b = some o → NT o → upd H p (.lst (vs.set k v)) b = some o := fun b o hb hh _ => by
    rw [upd_ne hb.hold_ne]
    exact hh
  exact ⟨(h.sl.keep kp).rehold, ((h.al.keep kp).set (q.keep kp) k).rehold, h.ow.put op⟩
def gCL (i j : Nat) (Wa Wb : WE) (Wi : WI) (T : WT) (We : WE) : WS := fun ds N _ _ => Wa ds fun x => ∃ xs, x = .lst xs ∧ Wb ds fun y => ∃ ys, y = .lst ys ∧ xs.length + ys.length ≤ sizeLine ∧ ∀ p, Wi (ds.set i (some (.fn p))) fun items =>
  ∃ I : Nat → Sl → List D → Prop, I 0 (ds.set i (some (.fn p))) (xs ++ ys) ∧
    (∀ m x ds' dv, items[m]? = some x → I m ds' dv → (ds'.set j (some x))[i]? = some (some (.fn p)) ∧ T (ds'.set j (some x)) fun b => if b = true then We (ds'.set j (some x)) fun d => ∃ k : Nat, (ds'.set j (some x))[j]? = some (some (.int k)) ∧ k < dv.length ∧ I (m + 1) (ds'.set j (some x)) (dv.set k d) else I (m + 1) (ds'.set j (some x)) dv) ∧
    ∀ ds' dv, I items.length ds' dv → ds'[i]? = some (some (.fn p)) ∧ N (ds'.set i (some (.lst dv)))
section
variable {X : Cx} {i j : Nat} {Wa Wb We : WE} {Wi : WI} {T : WT} {a b c e iter tg : Expr} {xi xj : Str} {p0 p1 p2 p3 pb ps pa pif pf : Pos} {rest : List Stmt} {E : XK} {G2 : WS}
theorem wss_catLoop (hN : X.N.Nodup) (hi : X.N[i]? = some xi) (hx : Loc X.env.scope xi) (ha : PE X a (tW Wa)) (hb : PE X b (tW Wb)) (hp : PassesOwn (model X.prog X.w) X.A X.env X.xe) (hc : X.calm = true) (hit : PI X tg iter (tIW Wi)) (hg : PG X tg (gName j)) (ht : PT X c (tTW T)) (he : PE X e (tW We))
    (hxi : PE X (.Name xi p1) (tVar i)) (hxj : PE X (.Name xj p2) (tVar j)) (h2 : PSs X rest (tSW E G2))
    (hs : swapsWith (.BinOp a .Add b pb) (some (.Name xi p0)) ps.line X.env = pure false := by rfl) (hf : X.fn xi = true ∨ X.env.scope.names.lookup xi = some .local := by first | exact .inl rfl | exact .inr rfl)
    (hs2 : swapsWithSole [.Subscript (.Name xi p1) (.Name xj p2) p3] e pa.line X.env = pure false := by rfl) (hw : swappedStores [.Subscript (.Name xi p1) (.Name xj p2) p3] e X.env = pure none := by rfl)
    (hs3 : ∀ x, foldedSetIterable iter X.env x = pure x := by intro _; rfl) :
    PSs X (.Assign [.Name xi p0] (.BinOp a .Add b pb) ps :: .For tg iter [.If c [.Assign [.Subscript (.Name xi p1) (.Name xj p2) p3] e pa] [] pif] [] pf :: rest) (tSW E (gSeq (gCL i j Wa Wb Wi T We) G2)) :=
  PSs.weak (pss_cons (ps_set hN hi hx (pe_op op_cat ha hb) hs hf) (pss_cons (ps_for hp hc hit hg (pss_one (ps_if ht (pss_one (ps_asg he (pg_sub hxi hxj set_list) hs2 hw)) pss_nil)) hs3) h2)) fun D σ H ⟨O, ds, N, R, Z, hS, hO, hG, hNx, hR, hZ⟩ =>
    ⟨O, ds, _, hS, hO, hG, fun dx hdx vx H1 e1 q1 => by
      obtain ⟨xs, rfl, hw2⟩ := hdx
      refine ⟨O, ds, _, hS.mono e1, hO.mono e1, hw2, fun dy hdy vy H2 e2 q2 => ?_⟩
      obtain ⟨ys, rfl, hsz, hG3⟩ := hdy
      cases q1 with
      | lst o1 r1 a1 =>
        cases q2 with
        | lst o2 r2 a2 =>
          rename_i l1 us1 l2 us2
          refine ⟨_, _, _, _, rfl, rfl, e2.keep _ _ o1 r1 (by intro ps z; cases z), r2, by rw [a1.length, a2.length]; exact hsz, fun p hpn => ?_⟩
          have e12 := e1.trans e2
          have O2 := hO.mono e12
          have op : Out O p := O2.out hpn
          let vs0 := us1 ++ us2
          let H3 := upd H2 p (.lst vs0)
          have kp : ∀ b o, Out (O ++ [(p, Own.hold (.lst vs0))]) b → H2 b = some o → NT o → H3 b = some o := fun b o hb hh _ => by
            show upd H2 p (.lst vs0) b = some o
            rw [upd_ne hb.hold_ne]
            exact hh
          have D0 : Hd O p vs0 H3 (σ.set i (some (.ref p))) (ds.set i (some (.fn p))) (xs ++ ys) :=
            ⟨(((hS.mono e12).more (fresh_none hpn)).keep kp).set i (.fn p), (((a1.mono e2).append a2).more (fresh_none hpn)).keep kp, OwnAll.hold (O := O) ⟨fun q hq => by
              obtain ⟨u, hu, k⟩ := O2.here q hq
              exact ⟨u, by show upd H2 p (.lst vs0) q.1 = some u; rw [upd_ne (fun e => op q hq e.symm)]; exact hu, k.upd (noCode_none hpn)⟩, O2.uq, O2.tabs⟩ op upd_same⟩
          have E0 : Ext O H2 H3 := .new hpn
          show tIW Wi _ H3 _
          refine ⟨_, _, _, D0.sl, D0.ow, hG3 p, fun items hI J H4 e4 hwalk => ?_⟩
          obtain ⟨I, h0, h1, h3⟩ := hI
          obtain ⟨Gd, w, hGd⟩ := hwalk
          have D1 := D0.mono e4
          have E1 : Ext O H2 H4 := e4.drop E0 hpn
          refine for_it w (fun m σ' H' => ∃ ds' dv vs, I m ds' dv ∧ Hd O p vs H' σ' ds' dv ∧ Ext O H2 H' ∧ ∀ b o, Out (O ++ [(p, Own.hold (.lst vs0))]) b → H4 b = some o → NT o → H' b = some o) ⟨_, _, vs0, h0, D1, E1, fun _ _ _ h _ => h⟩ (fun m σ' H' _ ⟨_, _, _, _, _, _, k⟩ => hGd H' k) ?_ ?_
          · rintro m x σ' H' H'' hm ⟨ds', dv, vs, hI, hd, E2, kk⟩ ⟨rfl, d, hxd, qd⟩
            obtain ⟨hsl, hT⟩ := h1 m d ds' dv hxd hI
            have hd2 : Hd O p vs H'' (σ'.set j (some x)) (ds'.set j (some d)) dv := ⟨hd.sl.set j ((qd.keep kk).rehold), hd.al, hd.ow⟩
            refine ⟨_, _, _, hd2.sl, hd2.ow, hT, fun bb hbb H5 e5 => ?_⟩
            have hd3 := hd2.mono e5
            have E3 : Ext O H2 H5 := e5.drop E2 hpn
            have k3 : ∀ b o, Out (O ++ [(p, Own.hold (.lst vs0))]) b → H4 b = some o → NT o → H5 b = some o := fun b o hb hh n => e5.keep b o (out_rehold hb) (kk b o hb hh n) n
            cases bb with
            | false =>
              rw [if_neg Bool.false_ne_true] at hbb
              show tNext _ _ _
              exact ⟨_, dv, vs, hbb, hd3, E3, k3⟩
            | true =>
              rw [if_pos rfl] at hbb
              show tAsg (tW We) (gSub (tVar i) (tVar j) rSetL) _ _ _
              refine ⟨_, _, _, hd3.sl, hd3.ow, hbb, fun dd hdd v H6 e6 q6 => ?_⟩
              obtain ⟨k, hk, hkl, hI2⟩ := hdd
              have hd4 := hd3.mono e6
              have E4 : Ext O H2 H6 := e6.drop E3 hpn
              obtain ⟨vi, hvi, qi⟩ := hd4.sl.val i _ hsl
              cases qi
              obtain ⟨vj, hvj, qj⟩ := hd4.sl.val j _ hk
              cases qj
              refine ⟨_, hvi, _, hvj, p, vs, k, k, rfl, rfl, hd4.at, Evl.ixN_nat (by rw [hd4.al.length]; exact hkl), ?_⟩
              refine ⟨_, _, vs.set k v, hI2, hd4.store op k q6, ⟨fun b o hb hh n => ?_, fun q hq hh => ?_⟩, fun b o hb hh n => ?_⟩
              · rw [upd_ne (ne_of_none hh hpn)]
                exact E4.keep b o hb hh n
              · obtain ⟨u, hu, ku⟩ := E4.own q hq hh
                exact ⟨u, by rw [upd_ne (fun e => op q hq e.symm)]; exact hu, ku.upd (noCode_of hd4.at)⟩
              · rw [upd_ne hb.hold_ne]
                exact e6.keep b o (out_rehold hb) (k3 b o hb hh n) n
          · rintro σ' H' ⟨ds', dv, vs, hI, hd, E2, _⟩
            obtain ⟨hsl, hNN⟩ := h3 ds' dv hI
            obtain ⟨vi, hvi, qi⟩ := hd.sl.val i _ hsl
            cases qi
            have eAll := e12.trans E2
            exact ⟨O, _, N, R, Z, (hd.sl.less).put hvi (.lst op hd.at hd.al.less), hd.ow.less, hNN, fun ds2 hd2 σ2 H5 e5 s5 => hNx ds2 hd2 σ2 H5 (eAll.trans e5) s5, fun d hd2 v H5 e5 q5 => hR d hd2 v H5 (eAll.trans e5) q5, fun C d hd2 dx v H5 e5 ox => hZ C d hd2 dx v H5 (eAll.trans e5) ox⟩⟩
end
/-- xs.index(y), bools -/
def wIndex (W Wy : WE) : WE := fun ds P => W ds fun d => ∃ es bs, d = .lst es ∧ boolsOf es = some bs ∧ Wy ds fun y => ∃ c, ∃ k : Nat, y = .bl c ∧ bs[k]? = some c ∧ (∀ m, m < k → bs[m]? ≠ some c) ∧ P (.int (k : Int))
section
variable {X : Cx} {e o : Expr} {W Wy : WE} {pos pa : Pos}
theorem we_index (ho : PE X o (tW W)) (ha : PE X e (tW Wy)) (hbase : attributeBase o "index" X.env (eval o X.env) = eval o X.env := by rfl)
    (hfew : ((backTo pos (starEach [e] X.env)).all (fun x => !x.1) && (backToKw pos (keywordEach [] X.env)).all (fun x => x.1.isSome)
      && decide (([e] : List Expr).length + ([] : List Keyword).length + (if ([] : List Keyword).isEmpty then 0 else 1) < 30)) = true := by rfl)
    (hline : (pa.endLine == pos.line) = true := by rfl) (hs : starEach [e] X.env = (false, eval e X.env) :: starEach [] X.env := by rfl) (hpl : (backTo pos (starEach [] X.env)).any (·.1) = false := by rfl) :
    PE X (.Call (.Attribute o "index" pa) [e] [] pos) (tW (wIndex W Wy)) :=
  PE.weak (pe_bm PySem.F.plainAttrs_list PySem.F.slot_list_index PySem.F.type_list_index mt_index ho (pa_cons ha pa_nil hs) hbase hfew hline hs hpl) fun σ H Q ⟨O, ds, P, hS, hO, hW, k⟩ =>
    ⟨O, ds, _, hS, hO, hW, fun d hd v H1 e1 q1 => by
      obtain ⟨es, bs, rfl, hb, hy⟩ := hd
      cases q1 with
      | lst o1 r1 a1 =>
        have ev := boolsOf_vs hb a1
        subst ev
        refine ⟨.inl ⟨rfl, _, .inl (.of r1)⟩, O, ds, _, hS.mono e1, hO.mono e1, hy, fun dy hdy vy H2 e2 q2 => ?_⟩
        obtain ⟨c, n, rfl, h1, h2, hp⟩ := hdy
        cases q2
        refine ⟨_, _, _, n, .bl c, rfl, rfl, .inl (.of (e2.keep _ _ o1 r1 (by intro ps z; cases z))), rfl, ?_, ?_, ?_, ?_, k _ hp _ _ (e1.trans e2) (.int _)⟩
        · exact List.all_eq_true.mpr fun x hx => by
            obtain ⟨b, _, rfl⟩ := List.mem_map.mp hx
            rfl
        · rw [List.getElem?_map, h1]
          rfl
        · exact beq_self_eq_true c
        · intro m z hm hz
          rw [List.getElem?_map] at hz
          cases hbm : bs[m]? with
          | none => rw [hbm] at hz; cases hz
          | some b =>
            rw [hbm] at hz
            cases hz
            show (b == c) = false
            exact beq_eq_false_iff_ne.mpr fun e => h2 m hm (by rw [hbm, e])⟩
end
end DL

set_option maxHeartbeats 2000000
namespace DL
open PySem PySem.Spec PyProof.Rows L2
variable [TabCtx]
/-! ### the script: a list of numbers that nothing writes to -/
def fLenQ (K : PySem.W.Frag) : DFn := fun es P => ∃ ns, es = [.sq K ns] ∧ P (.int (ns.length : Int))
def dIxQ (K : PySem.W.Frag) : DOp := fun x y P => ∃ ns i, x = .sq K ns ∧ y = .int i ∧ ∃ n, L2.atI ns i = some n ∧ P (.int n)
theorem sq_read {O : Ow} {H : Hp} {K : PySem.W.Frag} {a : Addr} {ns : List Int} (h : (Out O a ∧ Rd H a (.lst (ns.map V.int))) ∨ KL K a (ns.map V.int)) : SqL K H a (ns.map V.int) := by
  rcases h with ⟨_, h⟩ | h
  · exact .inl h
  · exact h.sq H
section
variable {X : Cx} {a b : Expr} {Wa Wb : WE} {pos : Pos}
theorem call_fLenQ : CallR X (.builtin "len") (rF (fLenQ X.K)) := by
  intro pins s σ H xs us Q I r ⟨O, es, P, hq, hO, ⟨ns, he, hp⟩, k⟩
  subst he
  cases hq with
  | cons q1 q2 =>
    cases q2
    cases q1 with
    | sq h => exact call_len_seq pins s σ H _ us Q I r ⟨_, _, rfl, .inl (sq_read h), k _ (by rw [List.length_map]; exact hp) _ H (.refl _ _) (.int _)⟩
theorem atI_map {α β : Type} (f : α → β) {xs : List α} {i : Int} {x : α} (h : L2.atI xs i = some x) : L2.atI (xs.map f) i = some (f x) := by
  unfold L2.atI at h ⊢
  rw [List.length_map]
  cases e : ixN xs.length i with
  | none => rw [e] at h; simp at h
  | some n =>
    rw [e] at h
    simp only [Option.bind_some] at h ⊢
    rw [List.getElem?_map, h]
    rfl
theorem ix_q : IxR X (rD (dIxQ X.K)) := by
  intro value slice pins s σ H x y v u Q I rx ry ⟨O, dx, dy, P, qx, qy, hO, ⟨ns, i, ex, ey, n, hn, hp⟩, k⟩ hs
  subst ex
  subst ey
  cases qx with
  | sq h =>
    cases qy
    exact ix_list value slice pins s σ H _ _ v u Q I rx ry ⟨_, _, _, _, rfl, rfl, sq_read h, atI_map V.int hn, k _ hp _ H (.refl _ _) (.int _)⟩ hs
theorem we_ixQ (ha : PE X a (tW Wa)) (hb : PE X b (tW Wb)) (hs : PlainIx b := by exact fun _ _ => rfl) : PE X (.Subscript a b pos) (tW (wOp (dIxQ X.K) Wa Wb)) := PE.weak (pe_ix ix_q ha hb hs) fun _ _ _ h => op_red h
/-- X != e, X a tuple of texts of the module's top -/
def wNeK (zs : List Str) (W : WE) : WE := fun ds P => W ds fun d => okEq d ∧ SeqAt.shaped (.tuple (zs.map PyData.str)) = true ∧ P (.bl (!PyData.eqv (.tuple (zs.map PyData.str)) d.py))
theorem dp_strs {K : PySem.W.Frag} {H : Hp} : ∀ zs : List Str, DpAll K H (zs.map V.str) (zs.map PyData.str)
  | [] => .nil
  | z :: zs => .cons (.str z) (dp_strs zs)
theorem wt_neK {zs : List Str} {x : Str} {p2 : Pos} (hu : X.A.units + 64 < cLine) (hg : Gl X x) (hk : KTexts X.K X.mg x zs) (hb : PE X b (tW Wb)) (hm : behindInMarks .NotEq b = false) (hd : (x == ("__debug__" : Str)) = false := by decide) :
    PT X (.Compare (.Name x p2) [.NotEq] [b] pos) (tTW (wTest (wNeK zs Wb))) := by
  obtain ⟨q, hmg, o, its, n, h1, h2, h3, h4, h5⟩ := hk
  exact PT.weak (pt_cmpR (op_neD hu) (pe_glob (v := .ref q) hg hmg rfl hd) hb hm) fun σ H Q h => by
    obtain ⟨O, ds, P, hS, hO, hW, k⟩ := h
    refine ⟨O, ds, _, hS, hO, hW, fun d hdd v H1 e1 q1 => ?_⟩
    obtain ⟨ok, sh, c, hc, hp⟩ := hdd
    cases hc
    exact ⟨_, _, .tup (.inr ⟨o, its, n, h1, h2, h3, h4, h5⟩) (dp_strs zs), q1.dp ok.1, sh, ok.2, _, rfl, k _ hp H1 e1⟩
end
end DL

set_option maxHeartbeats 4000000
namespace DL
open PySem PySem.Spec PyProof.Rows L2
variable [TabCtx]
/-! ### the end, for a law whose defs ask that nothing is being written -/
theorem headG {P : Program} {w : World} {K : PySem.W.Frag} {mg mb : Str → Option Value} {n : Nat} {fl a : Addr} {fd : FuncData} {nm : Str} {sp : Sp} {t : Shared} {us : List Value} {ks : List Int}
    (inK : K.In t.heap) (top : t.heap.Ns mainGlobals mg) (blt : t.heap.Ns builtinsNs mb) (boot : ∀ y : Str, y ≠ "__name__" → mb y = bootBuiltins y) (free : t.heap.NoLimit) (none_ : t.gens = #[])
    (obj : t.heap.get? a = some { cls := .type "list", data := .seq us.toArray }) (are : IntsAre us ks) (few : ks.length ≤ sizeLine) (room : Room n callerA)
    (G : ∀ base : Heap, K.In base → base.Ns mainGlobals mg → FnG P w K mg base CX0 n fl fd [nm] sp) (bind : ∀ (s : Shared) (u : Value), BindsTo s fd ⟨[u], []⟩ [(nm, u)])
    (told : ∀ H : Hp, Only H → SqL K H a (ks.map V.int) → sp [.ref a] H (fun v _ => v = .bl true) fun _ _ _ => False) :
    codeAny (model P w) callerA (.call (.ref fl) ⟨[.ref a], []⟩) (fun z s' => z = .ok (.ret (.bool true)) ∧ OldK t.heap s'.heap ∧ s'.os = t.os ∧ AllBare s'.gens) t := by
  have len := are.length
  have vals := vals_ints are
  have main : ∀ H : Hp, Only H → SqL K H a (ks.map V.int) → HOk P w H t.heap → (∀ c, H c ≠ none → c = a) → (H a ≠ none → K.lookup a = none) →
      codeAny (model P w) callerA (.call (.ref fl) ⟨[.ref a], []⟩) (fun z s' => z = .ok (.ret (.bool true)) ∧ OldK t.heap s'.heap ∧ s'.os = t.os ∧ AllBare s'.gens) t := by
    intro H only seq ho onlyA notK
    have isA : ∀ {c : Addr} {u : HO}, H c = some u → c = a := fun {c u} z => onlyA c (by rw [z]; exact Option.some_ne_none u)
    have under : ∀ {c : Addr} {o : Obj}, t.heap.get? c = some o → H c = none → (hidT t.heap H).get? c = some o := fun z m => hidT_get z m
    have dictFree : ∀ {c : Addr} {o : Obj} {ents : Array DictEntry} {ep : Nat}, t.heap.get? c = some o → o.data = .dict ents ep → H c = none := by
      intro c o ents ep z d
      match q : H c with
      | none => rfl
      | some u =>
        have ec := isA q
        rw [ec, obj] at z
        cases z
        exact absurd (show Data.seq us.toArray _ = Data.dict ents ep from d) (fun y => by cases y)
    have nsUnder : ∀ {c : Addr} {m : Str → Option Value}, t.heap.Ns c m → (hidT t.heap H).Ns c m := by
      rintro c m ⟨o, ents, ep, z, d, r⟩
      exact ⟨o, ents, ep, under z (dictFree z d), d, r⟩
    have inUnder : K.In (hidT t.heap H) := by
      intro c o z
      refine under (inK c o z) ?_
      match q : H c with
      | none => rfl
      | some u =>
        have ec := isA q
        rw [ec] at z q
        have nk := notK (by rw [q]; exact Option.some_ne_none u)
        rw [z] at nk
        cases nk
    obtain ⟨mc, lim1, lim2⟩ := free
    have modU : Mod K mg (hidT t.heap H) := ⟨inUnder, nsUnder top, ⟨mb, nsUnder blt, boot⟩, ⟨mc, nsUnder lim1, lim2⟩⟩
    have env0 : Env0 P w K mg (hidT t.heap H) callerA [] t H := ⟨rfl, modU, fun c o z => of_hidT z, Nat.le_of_eq (hidT_size _ _), trivial, fun c hc => (List.not_mem_nil hc).elim, ho, .of_eq none_⟩
    refine codeAny_mono ((G _ inUnder (nsUnder top)).go callerA [] t H ⟨[.ref a], []⟩ [.ref a] [.ref a] _ _ rfl room env0 (bind t (.ref a)) (.cons rfl .nil) (told H only seq)) fun z s' h => ?_
    match z, h with
    | .error e, h => exact False.elim h
    | .ok .next, h => exact False.elim h
    | .ok .brk, h => exact False.elim h
    | .ok .cont, h => exact False.elim h
    | .ok (.ret u), h =>
      obtain ⟨v, H', os', bare', un', ho', rel, ev⟩ := h
      have ev' : v = .bl true := ev
      subst ev'
      obtain rfl : u = Value.bool true := rel
      refine ⟨rfl, OldK.of_keep fun c o z => ?_, os', bare'⟩
      match q : H c with
      | none => exact un'.keep c o z q (fun y => List.not_mem_nil (show c ∈ ([] : List Addr) from y)) List.not_mem_nil
      | some u =>
        rcases only c with y | ⟨ob, ys, y⟩
        · rw [q] at y
          cases y
        · obtain ⟨z1, _⟩ := ho c _ y
          obtain ⟨z2, _⟩ := ho' c _ (un'.frzs c ob _ y)
          rw [z] at z1
          cases z1
          exact z2
  match kl : K.lookup a with
  | some o =>
    have z := inK a o kl
    rw [obj] at z
    cases z
    exact main (fun _ => none) (fun _ => .inl rfl) (.inr ⟨_, us.toArray, _, kl, rfl, rfl, rfl, by rw [List.size_toArray, len]; exact few, by simpa using vals⟩) (fun c u y => nomatch (show (none : Option HO) = some u from y)) (fun c y => absurd rfl y) fun y => absurd rfl y
  | none =>
    let H : Hp := fun c => if c = a then some (.frz { cls := .type "list", data := .seq us.toArray } (.lst (ks.map V.int))) else none
    have atA : H a = some (.frz { cls := .type "list", data := .seq us.toArray } (.lst (ks.map V.int))) := if_pos rfl
    have off : ∀ {c : Addr}, c ≠ a → H c = none := fun hc => if_neg hc
    refine main H (fun c => ?_) (.inl (.inr ⟨_, atA⟩)) (fun c u y => ?_) (fun c y => ?_) fun _ => kl
    · by_cases hc : c = a
      · rw [hc]
        exact .inr ⟨_, _, atA⟩
      · exact .inl (off hc)
    · by_cases hc : c = a
      · subst hc
        rw [atA] at y
        cases y
        exact ⟨obj, by rw [List.length_map]; exact few, us, _, vals, obj⟩
      · rw [off hc] at y
        cases y
    · by_cases hc : c = a
      · exact hc
      · exact absurd (off hc) y
theorem walkG {l : PySem.W.OpenLaw} {most n : Nat} {q : Program} {loose : List Str} {XP : (Str → Option Value) → Heap → Prop} {YP : World → Heap → Prop} {d : DefRec} {K : Params → PySem.W.Frag} {sp : World → Sp} {nm : Str}
    (hm : l.most = some most) (hs : most ≤ sizeLine) (nodef : d.params.defaults = []) (room : Room n callerA) (parts : ∀ (w : World) (h : Heap), YP w h → (K w.params).In h)
    (F : ∀ (w : World) (mg : Str → Option Value) (fl : Addr) (h : Heap), (K w.params).In h → h.Ns mainGlobals mg → mg d.name = some (.ref fl) →
      ∃ fd : FuncData, (∀ (s : Shared) (u : Value), BindsTo s fd ⟨[u], []⟩ [(nm, u)]) ∧ ∀ base : Heap, (K w.params).In base → base.Ns mainGlobals mg → FnG l.prog w (K w.params) mg base CX0 n fl fd [nm] (sp w))
    (told : ∀ (w : World) (H : Hp) (a : Addr) (ks : List Int), ks.length ≤ most → Only H → SqL (K w.params) H a (ks.map V.int) → sp w [.ref a] H (fun v _ => v = .bl true) fun _ _ _ => False) :
    PySem.W.WalkO q loose XP YP l.row.toRowW d [] (fun f vs => PySem.call f vs) := by
  refine Att.attach_call hm nodef fun w s₀ t mg mb fl o pm cd doc a us ks Gr Y _ _ _ hmg obj are len gens => ?_
  have inK := parts w _ Y
  obtain ⟨fd, bind, hG⟩ := F w mg fl _ inK Gr.T.g hmg
  exact headG inK Gr.T.g Gr.T.b Gr.T.builtins Gr.T.nolimit gens obj are (Nat.le_trans len hs) room hG bind fun H only seq => told w H a ks len only seq
end DL

set_option maxHeartbeats 4000000
namespace DL
open PySem PySem.Spec PyProof.Rows L2
variable [TabCtx]
/-! ### what the top has written, out of its written part -/
structure DnF (K : PySem.W.Frag) (x : Str) (st : Stmt) : Prop where
  ex : ∃ (f : Addr) (oc : Value) (od : Option Addr) (kV dc pm : Value) (an : Option Addr) (cd ct : Value) (sl : Array (Option Value)), PySem.W.nsIn K mainGlobals x = some (some (.ref f)) ∧
    K.lookup f = some ⟨oc, od, .func (PySem.W.fnOf x x (defArgs st) (defBody st) (defScope st) .none kV dc pm an cd ct), sl⟩ ∧ PySem.W.codeIn K cd x = true ∧ PySem.W.keepIn K (.ref f) = true
theorem dnF {K : PySem.W.Frag} {x : Str} {st : Stmt} {f : Addr} {oc : Value} {od : Option Addr} {kV dc pm : Value} {an : Option Addr} {cd ct : Value} {sl : Array (Option Value)} (a : PySem.W.nsIn K mainGlobals x = some (some (.ref f)))
    (l : K.lookup f = some ⟨oc, od, .func (PySem.W.fnOf x x (defArgs st) (defBody st) (defScope st) .none kV dc pm an cd ct), sl⟩) (c : PySem.W.codeIn K cd x = true) (k : PySem.W.keepIn K (.ref f) = true) : DnF K x st := ⟨_, _, _, _, _, _, _, _, _, _, a, l, c, k⟩
theorem DnF.dn {K : PySem.W.Frag} {mg : Str → Option Value} {h : Heap} {x : Str} {st : Stmt} {ps : List Str} (F : DnF K x st) (X : K.In h) (G : h.Ns mainGlobals mg)
    (b : ∀ (kV dc pm : Value) (an : Option Addr) (cd ct : Value) (us : List Value), us.length = ps.length → bindArgs (PySem.W.fnOf x x (defArgs st) (defBody st) (defScope st) .none kV dc pm an cd ct) ⟨us, []⟩ = pure (ps.zip us)) : Nonempty (Dn K mg x st ps) := by
  obtain ⟨f, oc, od, kV, dc, pm, an, cd, ct, sl, a, l, c, k⟩ := F.ex
  exact ⟨⟨f, _, fun_mk l c k, (fun_mk l c k).binds b, PySem.W.mg_of X G a⟩⟩
structure ExF (K : PySem.W.Frag) (x q : Str) (st : Stmt) (M : Addr) : Prop where
  ex : ∀ (mg : Str → Option Value) (h : Heap), K.In h → h.Ns mainGlobals mg → (∀ (kV dc pm : Value) (an : Option Addr) (cd ct : Value) (us : List Value), us.length = 2 → bindArgs (PySem.W.fnOf "__init__" q (defArgs st) (defBody st) (defScope st) .none kV dc pm an cd ct) ⟨us, []⟩ = pure ((["self", "told"] : List Str).zip us)) →
    ∃ e : Ex K mg x q st, Ex2 K e.C M
theorem exF {K : PySem.W.Frag} {x q : Str} {st : Stmt} {M C f : Addr} {nm qq : Str} {N : Addr} {bs bm : List Value} {sn : List Str} {sub : List Value} {ab : Bool} {col : Option Bool} {dd : Option Addr} {k0 k1 k2 k3 k5 : Option Value}
    {oc : Value} {od : Option Addr} {kV dc pm : Value} {an : Option Addr} {cd ct : Value} {sl : Array (Option Value)}
    (aC : PySem.W.nsIn K mainGlobals x = some (some (.ref C))) (xL : K.lookup C = some (excClassObj nm qq C N bs bm true sn sub ab col dd k0 k1 k2 k3 k5 "ValueError.__new__")) (vb : PySem.HandSPX.refsVE bm = true)
    (sa : PySem.W.findIn K (.ref C) "__setattr__" = some (some (.builtin "object.__setattr__"))) (ga : PySem.W.findIn K (.ref C) "__getattribute__" = some (some (.builtin "BaseException.__getattribute__")))
    (gg : PySem.W.findIn K (.ref C) "__getattr__" = some none) (no : PySem.W.findIn K (.ref C) "told" = some none) (ai : PySem.W.findIn K (.ref C) "__init__" = some (some (.ref f))) (ti : PySem.W.typeIn K (.ref f) = some (.type "function"))
    (li : K.lookup f = some ⟨oc, od, .func (PySem.W.fnOf "__init__" q (defArgs st) (defBody st) (defScope st) .none kV dc pm an cd ct), sl⟩) (ci : PySem.W.codeIn K cd q = true) (ki : PySem.W.keepIn K (.ref f) = true)
    (kC : PySem.W.keepIn K (.ref C) = true) (eC : PySem.W.subIn K (.ref C) (.type "BaseException") = some true) (tC : PySem.W.typeIn K (.ref C) = some (.type "type")) (hC : PySem.W.hasDictIn K C = true)
    (sC : PySem.W.subIn K (.ref C) (.ref C) = some true) (sM : PySem.W.subIn K (.ref C) (.ref M) = some true) (tM : PySem.W.typeIn K (.ref M) = some (.type "type")) (hM : PySem.W.hasDictIn K M = true)
    (ca : PySem.W.findIn K (.ref C) "__class__" = some (some (.builtin "object.__class__"))) (sg : PySem.W.specialIn K (.builtin "object.__class__") "__get__" = some (some (.builtin "getset_descriptor.__get__")))
    (tk : PySem.W.takesIn K (.builtin "object.__class__") = some true) (mr : PySem.W.mroIn K C (.type "object") = some true) : ExF K x q st M := by
  refine ⟨fun mg h X G b => ⟨⟨C, PySem.W.mg_of X G aC, ⟨⟨_, _, _, _, _, _, _, _, _, _, _, _, _, _, _, xL, vb⟩, sa, eC, tC, kC⟩, no, f, _, fun_mk li ci ki, (fun_mk li ci ki).binds b, ai, ti⟩, ⟨⟨ga, gg, eC, hC⟩, no, ⟨ga, gg, eC, hC, ca, sg, tk, mr⟩, PySem.W.exm_ref eC hC tC sC, ?_⟩⟩⟩
  obtain ⟨cdM, hcM, _⟩ := PySem.W.any_some hM
  show PySem.W.kitOne K (.ref C) (.ref M) = some true
  unfold PySem.W.kitOne
  split
  · rfl
  · have e : ((PySem.W.clsIn K M).isSome && PySem.W.typeIn K (.ref M) == some (.type "type")) = true := by
      rw [hcM, tM] <;> rfl
    show (if ((PySem.W.clsIn K M).isSome && PySem.W.typeIn K (.ref M) == some (.type "type")) = true then PySem.W.subIn K (.ref C) (.ref M) else none) = some true
    rw [if_pos e]
    exact sM
end DL

set_option maxHeartbeats 2000000
namespace DL
open PySem PySem.Spec PyProof.Rows L2
variable [TabCtx]
/-! ### a local list that grows: statements while it is held -/
theorem Ext.fresh {O : Ow} {H H1 : Hp} {p : Addr} (e : Ext O H H1) (o : OwnAll O H) (n : H1 p = .none) : Fresh H p := fun b u h t z => by
  subst z
  by_cases c : ∃ r ∈ O, r.1 = b
  · obtain ⟨r, hr, rfl⟩ := c
    obtain ⟨u1, h1, _⟩ := e.own r hr (o.here r hr)
    rw [n] at h1
    cases h1
  · have := e.keep b u (fun r hr z => c ⟨r, hr, z.symm⟩) h t
    rw [n] at this
    cases this
structure ExtH (O : Ow) (p : Addr) (H H' : Hp) : Prop where
  keep : ∀ b o, Out O b → b ≠ p → H b = some o → NT o → H' b = some o
  own : ∀ q ∈ O, OwnAt H q → OwnAt H' q
theorem ExtH.refl (O : Ow) (p : Addr) (H : Hp) : ExtH O p H H := ⟨fun _ _ _ _ h _ => h, fun _ _ h => h⟩
theorem ExtH.trans {O : Ow} {p : Addr} {H H1 H2 : Hp} (a : ExtH O p H H1) (b : ExtH O p H1 H2) : ExtH O p H H2 := ⟨fun c o x n h t => b.keep c o x n (a.keep c o x n h t) t, fun q hq h => b.own q hq (a.own q hq h)⟩
theorem ExtH.of {O : Ow} {p : Addr} {o : HO} {H H' : Hp} (e : Ext (O ++ [(p, .hold o)]) H H') : ExtH O p H H' :=
  ⟨fun b u x n h t => e.keep b u (fun q hq => by
      rcases List.mem_append.mp hq with z | z
      · exact x q z
      · rw [List.mem_singleton.mp z]; exact n) h t,
    fun q hq h => e.own q (List.mem_append_left _ hq) h⟩
theorem ExtH.free {O : Ow} {p : Addr} {H H' : Hp} (e : Ext O H H') : ExtH O p H H' := ⟨fun b o x _ h t => e.keep b o x h t, e.own⟩
/-- from a heap where p was not yet -/
theorem ExtH.drop {O : Ow} {p : Addr} {H0 H H' : Hp} (e : ExtH O p H H') (e0 : Ext O H0 H) (n : Fresh H0 p) : Ext O H0 H' :=
  ⟨fun b o x h t => e.keep b o x (n _ _ h t) (e0.keep b o x h t) t, fun q hq h => e.own q hq (e0.own q hq h)⟩
theorem ExtH.put {O : Ow} {p : Addr} {H : Hp} {o : HO} (op : Out O p) (nc : NoCode H p) : ExtH O p H (upd H p o) :=
  ⟨fun b u _ n h _ => by rw [upd_ne n]; exact h, fun q hq ⟨u, h, k⟩ => ⟨u, by rw [upd_ne (fun e => op q hq e.symm)]; exact h, k.upd nc⟩⟩
abbrev WH := Sl → List D → (Sl → List D → Prop) → (D → Prop) → (Addr → D → Prop) → Prop
def tHW (E : XK) (i : Nat) (G : WH) : TS := fun Dn σ H => ∃ (O : Ow) (p : Addr) (vs : List V) (ds : Sl) (dv : List D) (N : Sl → List D → Prop) (R : DL.D → Prop) (Z : Addr → DL.D → Prop), Out O p ∧ ds[i]? = some (some (.fn p)) ∧ Hd O p vs H σ ds dv ∧ G ds dv N R Z ∧
  (∀ ds' dv', N ds' dv' → ∀ vs' σ' H', ExtH O p H H' → ds'[i]? = some (some (.fn p)) → Hd O p vs' H' σ' ds' dv' → Dn.nx σ' H') ∧ (∀ d, R d → ∀ v H', ExtH O p H H' → Dq O H' v d → Dn.rt v H') ∧
  ∀ C d, Z C d → ∀ dx v H', ExtH O p H H' → Out O dx → H' dx = some (.xd [("told", v)]) → Dq O H' v d → E (.ref C) (some dx) H'
theorem Out.of_hold {O : Ow} {p b : Addr} {o : HO} (x : Out (O ++ [(p, .hold o)]) b) : Out O b ∧ b ≠ p := ⟨x.hold_out, x.hold_ne⟩
/-- a statement that leaves the held list alone -/
def gLift (i : Nat) (G : WS) : WH := fun ds dv N R Z => G ds (fun ds' => ds'[i]? = ds[i]? ∧ N ds' dv) R Z
def gSeqH (G1 G2 : WH) : WH := fun ds dv N R Z => G1 ds dv (fun ds' dv' => G2 ds' dv' N R Z) R Z
def gNextH : WH := fun ds dv N _ _ => N ds dv
/-- the list as it stands now -/
def seen (i : Nat) (ds : Sl) (dv : List D) : Sl := ds.set i (some (.lst dv))
def gIfH (i : Nat) (T : WT) (G1 G2 : WH) : WH := fun ds dv N R Z => T (seen i ds dv) fun b => if b = true then G1 ds dv N R Z else G2 ds dv N R Z
mutual
/-- holds no list -/
def noL : D → Bool
  | .lst _ => false
  | .sq _ _ => false
  | .ins _ _ ds => noLs ds
  | .dct _ ds => noLs ds
  | .tup xs => noLs xs
  | .exn _ _ t => noL t
  | _ => true
def noLs : List D → Bool
  | [] => true
  | x :: xs => noL x && noLs xs
end
mutual
theorem Dq.held {O : Ow} {H : Hp} {p : Addr} {vs : List V} (hp : H p = some (.lst vs)) : ∀ {v : V} {d : D}, Dq O H v d → noL d = true → Dq (O ++ [(p, .hold (.lst vs))]) H v d
  | _, _, .non, _ => .non
  | _, _, .bl b, _ => .bl b
  | _, _, .int i, _ => .int i
  | _, _, .str x, _ => .str x
  | _, _, .lst _ _ _, n => by unfold noL at n; cases n
  | _, _, .tup x r a, n => by
    unfold noL at n
    refine .tup (fun q hq => ?_) r (a.held hp n)
    rcases List.mem_append.mp hq with z | z
    · exact x q z
    · rw [List.mem_singleton.mp z]
      rintro rfl
      rcases r with r | ⟨o, r⟩ <;> (rw [hp] at r; cases r)
  | _, _, .src h, _ => .src (List.mem_append_left _ h)
  | _, _, .fn f, _ => .fn f
  | _, _, .exn x r a, n => by
    unfold noL at n
    refine .exn (fun q hq => ?_) r (a.held hp n)
    rcases List.mem_append.mp hq with z | z
    · exact x q z
    · rw [List.mem_singleton.mp z]
      rintro rfl
      rw [hp] at r
      cases r
  | _, _, .sq _, n => by unfold noL at n; cases n
  | _, _, .ins x r a, n => by
    unfold noL at n
    refine .ins (fun q hq => ?_) r (a.held hp n)
    rcases List.mem_append.mp hq with z | z
    · exact x q z
    · rw [List.mem_singleton.mp z]
      rintro rfl
      rw [hp] at r
      cases r
  | _, _, .dct x r a, n => by
    unfold noL at n
    refine .dct (fun q hq => ?_) r (a.held hp n)
    rcases List.mem_append.mp hq with z | z
    · exact x q z
    · rw [List.mem_singleton.mp z]
      rintro rfl
      rw [hp] at r
      cases r
theorem DqAll.held {O : Ow} {H : Hp} {p : Addr} {vs : List V} (hp : H p = some (.lst vs)) : ∀ {us : List V} {ds : List D}, DqAll O H us ds → noLs ds = true → DqAll (O ++ [(p, .hold (.lst vs))]) H us ds
  | _, _, .nil, _ => .nil
  | _, _, .cons a b, n => by
    unfold noLs at n
    obtain ⟨h1, h2⟩ := Bool.and_eq_true_iff.mp n
    exact .cons (a.held hp h1) (b.held hp h2)
end
section
variable {O : Ow} {p : Addr} {vs : List V} {H H' : Hp} {σ : L2.St} {ds : Sl} {dv : List D} {i : Nat}
theorem Hd.seen (h : Hd O p vs H σ ds dv) (op : Out O p) (hi : ds[i]? = some (some (.fn p))) : SlD O H σ (DL.seen i ds dv) := by
  obtain ⟨v, hv, q⟩ := h.sl.val i _ hi
  cases q
  exact h.sl.less.put hv (.lst op h.at h.al.less)
theorem Hd.free (h : Hd O p vs H σ ds dv) (op : Out O p) (e : Ext O H H') : Hd O p vs H' σ ds dv := by
  have k : ∀ b o, Out (O ++ [(p, Own.hold (HO.lst vs))]) b → H b = some o → NT o → H' b = some o := fun b o x hh t => e.keep b o x.hold_out hh t
  exact ⟨h.sl.keep k, h.al.keep k, OwnAll.hold (h.ow.less.mono e) op (e.keep p _ op h.at (by intro ps z; cases z))⟩
theorem Hd.app (h : Hd O p vs H σ ds dv) (op : Out O p) {us : List V} {es : List D} (q : DqAll (O ++ [(p, .hold (.lst vs))]) H us es) : Hd O p (vs ++ us) (upd H p (.lst (vs ++ us))) σ ds (dv ++ es) := by
  have k : ∀ b o, Out (O ++ [(p, Own.hold (HO.lst vs))]) b → H b = some o → NT o → upd H p (.lst (vs ++ us)) b = some o := fun b o hb hh _ => by
    rw [upd_ne hb.hold_ne]
    exact hh
  exact ⟨(h.sl.keep k).rehold, ((h.al.keep k).append (q.keep k)).rehold, h.ow.put op⟩
end
section
variable {X : Cx} {E : XK} {st : Stmt} {rest : List Stmt} {G1 G2 : WH} {G : WS} {i : Nat}
theorem hs_lift_red {D : Ends} {σ : L2.St} {H : Hp} (h : tHW E i (gLift i G) D σ H) : tSW E G D σ H := by
  obtain ⟨O, p, vs, ds, dv, N, R, Z, op, hi, hd, hG, hN, hR, hZ⟩ := h
  exact ⟨_, ds, _, R, Z, hd.sl, hd.ow, hG, fun ds' ⟨h1, h2⟩ σ' H' e s => hN ds' dv h2 vs σ' H' (.of e) (by rw [h1]; exact hi) ⟨s, hd.al.mono e, hd.ow.mono e⟩, fun d h v H' e q => hR d h v H' (.of e) q.less, fun C d h dx v H' e ox hx q => hZ C d h dx v H' (.of e) ox.hold_out hx q.less⟩
theorem hs_lift (h : PS X st (tSW E G)) : PS X st (tHW E i (gLift i G)) := PS.weak h fun _ _ _ z => hs_lift_red z
theorem hss_nil : PSs X [] (tHW E i gNextH) := PSs.weak pss_nil fun D σ H ⟨O, p, vs, ds, dv, N, R, Z, op, hi, hd, hG, hN, hR, hZ⟩ => hN ds dv hG vs σ H (.refl _ _ _) hi hd
theorem hss_cons (h1 : PS X st (tHW E i G1)) (h2 : PSs X rest (tHW E i G2)) : PSs X (st :: rest) (tHW E i (gSeqH G1 G2)) :=
  PSs.weak (pss_cons h1 h2) fun D σ H ⟨O, p, vs, ds, dv, N, R, Z, op, hi, hd, hG, hN, hR, hZ⟩ => ⟨O, p, vs, ds, dv, _, R, Z, op, hi, hd, hG, fun ds' dv' h vs' σ' H' e hi' hd' =>
    ⟨O, p, vs', ds', dv', N, R, Z, op, hi', hd', h, fun ds2 dv2 h2 vs2 σ2 H2 e2 hi2 hd2 => hN ds2 dv2 h2 vs2 σ2 H2 (e.trans e2) hi2 hd2, fun d h v H2 e2 q => hR d h v H2 (e.trans e2) q, fun C d h dx v H2 e2 ox => hZ C d h dx v H2 (e.trans e2) ox⟩, hR, hZ⟩
theorem hss_one (h1 : PS X st (tHW E i G1)) : PSs X [st] (tHW E i G1) := pss_one h1
theorem hs_if {c : Expr} {a b : List Stmt} {T : WT} {pos : Pos} (hc : PT X c (tTW T)) (ha : PSs X a (tHW E i G1)) (hb : PSs X b (tHW E i G2)) : PS X (.If c a b pos) (tHW E i (gIfH i T G1 G2)) :=
  PS.weak (ps_if hc ha hb) fun D σ H ⟨O, p, vs, ds, dv, N, R, Z, op, hi, hd, hG, hN, hR, hZ⟩ => ⟨O, _, _, hd.seen op hi, hd.ow.less, hG, fun b hb H1 e1 => by
    have hd1 := hd.free op e1
    have x1 : ExtH O p H H1 := .free e1
    cases b with
    | true =>
      rw [if_pos rfl] at hb
      show tHW E i G1 _ _ _
      exact ⟨O, p, vs, ds, dv, N, R, Z, op, hi, hd1, hb, fun ds2 dv2 h2 vs2 σ2 H2 e2 hi2 hd2 => hN ds2 dv2 h2 vs2 σ2 H2 (x1.trans e2) hi2 hd2, fun d h v H2 e2 q => hR d h v H2 (x1.trans e2) q, fun C d h dx v H2 e2 ox => hZ C d h dx v H2 (x1.trans e2) ox⟩
    | false =>
      rw [if_neg Bool.false_ne_true] at hb
      show tHW E i G2 _ _ _
      exact ⟨O, p, vs, ds, dv, N, R, Z, op, hi, hd1, hb, fun ds2 dv2 h2 vs2 σ2 H2 e2 hi2 hd2 => hN ds2 dv2 h2 vs2 σ2 H2 (x1.trans e2) hi2 hd2, fun d h v H2 e2 q => hR d h v H2 (x1.trans e2) q, fun C d h dx v H2 e2 ox => hZ C d h dx v H2 (x1.trans e2) ox⟩⟩
/-- x = e, e may look at the held list -/
def gSetH (i j : Nat) (W : WE) : WH := fun ds dv N _ _ => W (seen i ds dv) fun d => noL d = true ∧ (ds.set j (some d))[i]? = ds[i]? ∧ N (ds.set j (some d)) dv
theorem hs_set {j : Nat} {x : Str} {e : Expr} {W : WE} {pos pos' : Pos} (hN : X.N.Nodup) (hj : X.N[j]? = some x) (hx : Loc X.env.scope x) (he : PE X e (tW W)) (hs : swapsWith e (some (.Name x pos')) pos.line X.env = pure false := by rfl)
    (hf : X.fn x = true ∨ X.env.scope.names.lookup x = some .local := by first | exact .inl rfl | exact .inr rfl) : PS X (.Assign [.Name x pos'] e pos) (tHW E i (gSetH i j W)) :=
  PS.weak (ps_set hN hj hx he hs hf) fun D σ H ⟨O, p, vs, ds, dv, N, R, Z, op, hi, hd, hG, hNx, hR, hZ⟩ => ⟨O, _, _, hd.seen op hi, hd.ow.less, hG, fun d ⟨h1, h2, h3⟩ v H1 e1 q1 => by
    have hd1 := hd.free op e1
    exact hNx _ dv h3 vs _ H1 (.free e1) (by rw [h2]; exact hi) ⟨hd1.sl.set j (q1.held hd1.at h1), hd1.al, hd1.ow⟩⟩
/-- x.append(e) -/
def gAppend (i : Nat) (W : WE) : WH := fun ds dv N _ _ => W (seen i ds dv) fun d => noL d = true ∧ dv.length < sizeLine ∧ N ds (dv ++ [d])
def gAppendH (W : WE) : WH := fun ds dv N _ _ => W ds fun d => dv.length < sizeLine ∧ N ds (dv ++ [d])
/-- the tail, the list done -/
def gDone (i : Nat) (G : WS) : WH := fun ds dv _ R Z => G (seen i ds dv) (fun _ => False) R Z
theorem hss_done (h : PSs X rest (tSW E G)) : PSs X rest (tHW E i (gDone i G)) :=
  PSs.weak h fun D σ H ⟨O, p, vs, ds, dv, N, R, Z, op, hi, hd, hG, hN, hR, hZ⟩ => ⟨O, _, _, R, Z, hd.seen op hi, hd.ow.less, hG, fun _ z => z.elim, fun d h v H' e q => hR d h v H' (.free e) q, fun C d h dx v H' e ox => hZ C d h dx v H' (.free e) ox⟩
/-- the loop -/
def gForH (j : Nat) (Wi : WI) (G : WH) : WH := fun ds dv N R Z => Wi ds fun xs => ∃ I : Nat → Sl → List D → Prop, I 0 ds dv ∧
  (∀ k x ds' dv', xs[k]? = some x → I k ds' dv' → ds'[j]? ≠ none ∧ G (ds'.set j (some x)) dv' (I (k + 1)) R Z) ∧ ∀ ds' dv', I xs.length ds' dv' → N ds' dv'
theorem hs_for {j : Nat} {tg iter : Expr} {body : List Stmt} {Wi : WI} {pos : Pos} (hij : i ≠ j) (hp : PassesOwn (model X.prog X.w) X.A X.env X.xe) (hc : X.calm = true) (hit : PI X tg iter (tIW Wi)) (hg : PG X tg (gName j)) (hb : PSs X body (tHW E i G1))
    (hs : ∀ x, foldedSetIterable iter X.env x = pure x := by intro _; rfl) : PS X (.For tg iter body [] pos) (tHW E i (gForH j Wi G1)) :=
  PS.weak (ps_for hp hc hit hg hb hs) fun D σ H ⟨O, p, vs, ds, dv, N, R, Z, op, hi, hd, hG, hN, hR, hZ⟩ => ⟨_, ds, _, hd.sl, hd.ow, hG, fun xs ⟨I, h0, h1, h2⟩ J H1 e1 ⟨Gd, w, hGd⟩ => by
    refine for_it w (fun k σ2 H2 => ∃ ds' dv' vs', I k ds' dv' ∧ ds'[i]? = some (some (.fn p)) ∧ Hd O p vs' H2 σ2 ds' dv' ∧ ExtH O p H1 H2) ⟨ds, dv, vs, h0, hi, hd.mono e1, .refl _ _ _⟩
      (fun k σ2 H2 _ ⟨_, _, _, _, _, _, e2⟩ => hGd H2 fun b o x h t => e2.keep b o x.hold_out x.hold_ne h t) ?_ ?_
    · rintro k x σ2 H2 H' hk ⟨ds', dv', vs', hI, hi', hd', e2⟩ ⟨rfl, d, hd0, qd⟩
      have x2 := (ExtH.of e1).trans e2
      have kk : ∀ b o, Out (O ++ [(p, Own.hold (HO.lst vs))]) b → H1 b = some o → NT o → H' b = some o := fun b o x h t => e2.keep b o x.hold_out x.hold_ne h t
      have hi2 : (ds'.set j (some d))[i]? = some (some (.fn p)) := by rw [List.getElem?_set_ne hij.symm]; exact hi'
      exact ⟨O, p, vs', _, dv', I (k + 1), R, Z, op, hi2, ⟨hd'.sl.set j ((qd.keep kk).rehold), hd'.al, hd'.ow⟩, (h1 k d ds' dv' hd0 hI).2, fun ds3 dv3 h3 vs3 σ3 H3 e3 hi3 hd3 => ⟨ds3, dv3, vs3, h3, hi3, hd3, e2.trans e3⟩,
        fun d h v H3 e3 q => hR d h v H3 (x2.trans e3) q, fun C d h dx v H3 e3 ox => hZ C d h dx v H3 (x2.trans e3) ox⟩
    · rintro σ2 H2 ⟨ds', dv', vs', hI, hi', hd', e2⟩
      exact hN ds' dv' (h2 ds' dv' hI) vs' σ2 H2 ((ExtH.of e1).trans e2) hi' hd'⟩
theorem hs_append {x : Str} {e : Expr} {W : WE} {pos pa p1 pe : Pos} (hx : PE X (.Name x p1) (tVar i)) (he : PE X e (tW W))
    (hbase : attributeBase (.Name x p1) "append" X.env (eval (.Name x p1) X.env) = eval (.Name x p1) X.env := by rfl)
    (hfew : ((backTo pos (starEach [e] X.env)).all (fun x => !x.1) && (backToKw pos (keywordEach [] X.env)).all (fun x => x.1.isSome)
      && decide (([e] : List Expr).length + ([] : List Keyword).length + (if ([] : List Keyword).isEmpty then 0 else 1) < 30)) = true := by rfl)
    (hline : (pa.endLine == pos.line) = true := by rfl) (hs : starEach [e] X.env = (false, eval e X.env) :: starEach [] X.env := by rfl) (hpl : (backTo pos (starEach [] X.env)).any (·.1) = false := by rfl)
    (hw : swapsWith (.Call (.Attribute (.Name x p1) "append" pa) [e] [] pos) none pe.line X.env = pure false := by rfl) :
    PS X (.Expr (.Call (.Attribute (.Name x p1) "append" pa) [e] [] pos) pe) (tHW E i (gAppend i W)) :=
  PS.weak (ps_expr (pe_bm PySem.F.plainAttrs_list PySem.F.slot_list_append PySem.F.type_list_append mt_append hx (pa_cons he pa_nil hs) hbase hfew hline hs hpl) hw) fun D σ H ⟨O, p, vs, ds, dv, N, R, Z, op, hi, hd, hG, hN, hR, hZ⟩ => by
    obtain ⟨v, hv, q⟩ := hd.sl.val i _ hi
    cases q
    exact ⟨_, hv, .inl ⟨rfl, _, .inl (.of hd.at)⟩, O, _, _, hd.seen op hi, hd.ow.less, hG, fun d ⟨h1, h2, h3⟩ v H1 e1 q1 => by
      have hd1 := hd.free op e1
      exact ⟨p, vs, v, rfl, rfl, hd1.at, by rw [hd1.al.length]; exact h2, hN ds _ h3 _ σ _ ((ExtH.free e1).trans (.put op (noCode_of hd1.at))) hi (hd1.app op (.cons (q1.held hd1.at h1) .nil))⟩⟩
theorem hs_appendH {x : Str} {e : Expr} {W : WE} {pos pa p1 pe : Pos} (hx : PE X (.Name x p1) (tVar i)) (he : PE X e (tW W))
    (hbase : attributeBase (.Name x p1) "append" X.env (eval (.Name x p1) X.env) = eval (.Name x p1) X.env := by rfl)
    (hfew : ((backTo pos (starEach [e] X.env)).all (fun x => !x.1) && (backToKw pos (keywordEach [] X.env)).all (fun x => x.1.isSome)
      && decide (([e] : List Expr).length + ([] : List Keyword).length + (if ([] : List Keyword).isEmpty then 0 else 1) < 30)) = true := by rfl)
    (hline : (pa.endLine == pos.line) = true := by rfl) (hs : starEach [e] X.env = (false, eval e X.env) :: starEach [] X.env := by rfl) (hpl : (backTo pos (starEach [] X.env)).any (·.1) = false := by rfl)
    (hw : swapsWith (.Call (.Attribute (.Name x p1) "append" pa) [e] [] pos) none pe.line X.env = pure false := by rfl) :
    PS X (.Expr (.Call (.Attribute (.Name x p1) "append" pa) [e] [] pos) pe) (tHW E i (gAppendH W)) :=
  PS.weak (ps_expr (pe_bm PySem.F.plainAttrs_list PySem.F.slot_list_append PySem.F.type_list_append mt_append hx (pa_cons he pa_nil hs) hbase hfew hline hs hpl) hw) fun D σ H ⟨O, p, vs, ds, dv, N, R, Z, op, hi, hd, hG, hN, hR, hZ⟩ => by
    obtain ⟨v, hv, q⟩ := hd.sl.val i _ hi
    cases q
    exact ⟨_, hv, .inl ⟨rfl, _, .inl (.of hd.at)⟩, _, _, _, hd.sl, hd.ow, hG, fun d ⟨h2, h3⟩ v H1 e1 q1 => by
      have hd1 := hd.mono e1
      exact ⟨p, vs, v, rfl, rfl, hd1.at, by rw [hd1.al.length]; exact h2, hN ds _ h3 _ σ _ ((ExtH.of e1).trans (.put op (noCode_of hd1.at))) hi (hd1.app op (.cons q1 .nil))⟩⟩
/-! ### a fresh list -/
abbrev WF := Sl → (List D → Prop) → Prop
def tFW (W : WF) : TE := fun σ H Q => ∃ (O : Ow) (ds : Sl) (P : List D → Prop), SlD O H σ ds ∧ OwnAll O H ∧ W ds P ∧ ∀ es, P es → ∀ p vs H', Out O p → Fresh H p → Ext O H H' → H' p = some (.lst vs) → DqAll (O ++ [(p, .hold (.lst vs))]) H' vs es → Q (.ref p) H'
theorem fw_lst {es : List Expr} {A : WA} {pos : Pos} (h : PA X es (tAW A)) : PE X (.List es pos) (tFW fun ds P => A ds fun es => es.length ≤ sizeLine ∧ P es) :=
  PE.weak (pe_lst h) fun σ H Q ⟨O, ds, P, hS, hO, hW, k⟩ => ⟨O, ds, _, hS, hO, hW, fun es ⟨hl, he⟩ vs H1 e1 q1 => ⟨by rw [q1.length]; exact hl, fun p hp =>
    k es he p vs _ ((hO.mono e1).out hp) (e1.fresh hO hp) (e1.trans (.new hp)) upd_same ((q1.more (fresh_none hp)).keep fun b o x hh _ => by rw [upd_ne x.hold_ne]; exact hh)⟩⟩
def fwCat (Wa Wb : WE) : WF := fun ds P => Wa ds fun x => ∃ xs, x = .lst xs ∧ Wb ds fun y => ∃ ys, y = .lst ys ∧ xs.length + ys.length ≤ sizeLine ∧ P (xs ++ ys)
theorem fw_cat {a b : Expr} {Wa Wb : WE} {pos : Pos} (ha : PE X a (tW Wa)) (hb : PE X b (tW Wb)) : PE X (.BinOp a .Add b pos) (tFW (fwCat Wa Wb)) :=
  PE.weak (pe_op op_cat ha hb) fun σ H Q ⟨O, ds, P, hS, hO, hW, k⟩ => ⟨O, ds, _, hS, hO, hW, fun dx hx v H1 e1 q1 => by
    obtain ⟨xs, rfl, hw⟩ := hx
    refine ⟨O, ds, _, hS.mono e1, hO.mono e1, hw, fun dy hy u H2 e2 q2 => ?_⟩
    obtain ⟨ys, rfl, hz, hp⟩ := hy
    cases q1 with
    | lst o1 r1 a1 =>
      cases q2 with
      | lst o2 r2 a2 =>
        have e12 := e1.trans e2
        exact ⟨_, _, _, _, rfl, rfl, e2.keep _ _ o1 r1 (by intro ps z; cases z), r2, by rw [a1.length, a2.length]; exact hz, fun p np => k _ hp p _ _ ((hO.mono e12).out np) (e12.fresh hO np) (e12.trans (.new np)) upd_same ((((a1.mono e2).append a2).more (fresh_none np)).keep fun b o x hh _ => by rw [upd_ne x.hold_ne]; exact hh)⟩⟩
/-- x = a fresh list; the rest while it is held -/
def gAcc (i : Nat) (W : WF) (G : WH) : WS := fun ds N R Z => i < ds.length ∧ W ds fun es => ∀ p, G (ds.set i (some (.fn p))) es (fun ds' dv' => N (seen i ds' dv')) R Z
theorem wss_acc {x : Str} {e : Expr} {W : WF} {pos pos' : Pos} (hN : X.N.Nodup) (hi : X.N[i]? = some x) (hx : Loc X.env.scope x) (he : PE X e (tFW W)) (hr : PSs X rest (tHW E i G1)) (hs : swapsWith e (some (.Name x pos')) pos.line X.env = pure false := by rfl)
    (hf : X.fn x = true ∨ X.env.scope.names.lookup x = some .local := by first | exact .inl rfl | exact .inr rfl) : PSs X (.Assign [.Name x pos'] e pos :: rest) (tSW E (gAcc i W G1)) :=
  PSs.weak (pss_cons (ps_set hN hi hx he hs hf) hr) fun D σ H ⟨O, ds, N, R, Z, hS, hO, ⟨hl, hG⟩, hNx, hR, hZ⟩ => ⟨O, ds, _, hS, hO, hG, fun es hes p vs H' op np e1 hp hq => by
    have kk : ∀ b o, Out (O ++ [(p, Own.hold (HO.lst vs))]) b → H b = some o → NT o → H' b = some o := fun b o x hh t => e1.keep b o x.hold_out hh t
    exact ⟨O, p, vs, ds.set i (some (.fn p)), es, _, R, Z, op, List.getElem?_set_self hl, ⟨((hS.more np).keep kk).set i (.fn p), hq, OwnAll.hold (hO.mono e1) op hp⟩, hes p,
      fun ds' dv' h vs' σ2 H2 e2 hi2 hd2 => hNx _ h σ2 H2 (e2.drop e1 np) (hd2.seen op hi2), fun d h v H2 e2 q => hR d h v H2 (e2.drop e1 np) q, fun C d h dx v H2 e2 ox => hZ C d h dx v H2 (e2.drop e1 np) ox⟩⟩
end
end DL

set_option maxHeartbeats 2000000
namespace DL
open PySem PySem.Spec PyProof.Rows L2
variable [TabCtx]
/-! ### instances and dicts that are only read -/
def fldD : List Str → List D → Str → Option D
  | n :: ns, d :: ds, f => if f = n then some d else fldD ns ds f
  | _, _, _ => none
theorem fld_rel {O : Ow} {H : Hp} {f : Str} {d : D} : ∀ {ns : List Str} {vs : List V} {ds : List D}, fldD ns ds f = some d → DqAll O H vs ds → ∃ v, (ns.zip vs).lookup f = some v ∧ Dq O H v d
  | [], _, _, h, _ => by simp [fldD] at h
  | n :: ns, _, _, h, .nil => by simp [fldD] at h
  | n :: ns, _, _, h, .cons (v := v) a b => by
    unfold fldD at h
    by_cases e : f = n
    · rw [if_pos e] at h
      cases h
      exact ⟨v, by rw [e]; simp [List.lookup], a⟩
    · rw [if_neg e] at h
      obtain ⟨u, h1, h2⟩ := fld_rel h b
      refine ⟨u, ?_, h2⟩
      have e' : (f == n) = false := beq_eq_false_iff_ne.mpr e
      simp only [List.zip_cons_cons, List.lookup, e']
      exact h1
theorem fld_none {m : Str} : ∀ {ns : List Str} {vs : List V}, m ∉ ns → (ns.zip vs).lookup m = none
  | [], _, _ => rfl
  | n :: ns, [], _ => rfl
  | n :: ns, v :: vs, h => by
    have e' : (m == n) = false := beq_eq_false_iff_ne.mpr fun e => h (by rw [e]; exact List.mem_cons_self)
    simp only [List.zip_cons_cons, List.lookup, e']
    exact fld_none fun z => h (List.mem_cons_of_mem _ z)
def valD : List Key → List D → Key → Option D
  | k :: ks, d :: ds, q => if k = q then some d else valD ks ds q
  | _, _, _ => none
theorem val_rel {O : Ow} {H : Hp} {q : Key} : ∀ {ks : List Key} {vs : List V} {ds : List D}, DqAll O H vs ds → (∃ d v, valD ks ds q = some d ∧ valV (ks.zip vs) q = some v ∧ Dq O H v d) ∨ (valD ks ds q = none ∧ valV (ks.zip vs) q = none)
  | [], _, _, _ => .inr ⟨by simp [valD], rfl⟩
  | k :: ks, _, _, .nil => .inr ⟨by simp [valD], rfl⟩
  | k :: ks, _, _, .cons (v := v) (d := d) a b => by
    by_cases e : k = q
    · exact .inl ⟨d, v, by simp [valD, e], by simp [valV, e], a⟩
    · rcases val_rel (q := q) (ks := ks) b with ⟨d', v', h1, h2, h3⟩ | ⟨h1, h2⟩
      · exact .inl ⟨d', v', by simpa [valD, e] using h1, by simpa [valV, e] using h2, h3⟩
      · exact .inr ⟨by simpa [valD, e] using h1, by simpa [valV, e] using h2⟩
/-- a key, out of data -/
def keyD : D → Option Key
  | .int i => some (.inl i)
  | .str x => some (.inr x)
  | _ => none
theorem keyD_kV {O : Ow} {H : Hp} {v : V} {d : D} {k : Key} (h : keyD d = some k) (q : Dq O H v d) : v = kV k := by
  cases q <;> simp only [keyD, Option.some.injEq, reduceCtorEq] at h <;> subst h <;> rfl
section
variable {X : Cx} {e o i x : Expr} {Wo Wi Wx : WE} {pos apos : Pos} {C : Addr} {f m : Str}
def wFld (C : Addr) (f : Str) (W : WE) : WE := fun ds P => W ds fun x => ∃ ns es, x = .ins C ns es ∧ ∃ d, fldD ns es f = some d ∧ P d
theorem we_fld (c : Cls X.K C) (n : NoAttr X.K C f) (he : PE X e (tW Wo)) (hb : attributeBase e f X.env (eval e X.env) = eval e X.env := by rfl) : PE X (.Attribute e f pos) (tW (wFld C f Wo)) :=
  PE.weak (pe_fld he hb) fun σ H Q ⟨O, ds, P, hS, hO, hW, k⟩ => ⟨O, ds, _, hS, hO, hW, fun x hx v H1 e1 q1 => by
    obtain ⟨ns, es, rfl, d, h1, hp⟩ := hx
    cases q1 with
    | ins o1 r1 a1 =>
      obtain ⟨u, h2, h3⟩ := fld_rel h1 a1
      exact ⟨_, C, _, _, u, rfl, r1, c, n, h2, k _ hp u H1 e1 h3⟩⟩
/-- o.m(..), m a def of the class that raises nothing -/
def wMeth (C : Addr) (m : Str) (g : DFn) (Wo : WE) (A : WA) : WE := fun ds P => Wo ds fun x => ∃ ns es0, x = .ins C ns es0 ∧ m ∉ ns ∧ A ds fun es => g (x :: es) P
theorem meth_red {g : DSp} {A : WA} {σ : L2.St} {H : Hp} {Q : VK} {E : XK} (h : tW (wMeth C m (quiet g) Wo A) σ H Q) : tMeth C m (spD g) [] E (tW Wo) (tAW A) σ H Q := by
  obtain ⟨O, ds, P, hS, hO, hW, k⟩ := h
  refine ⟨O, ds, _, hS, hO, hW, fun x hx v H1 e1 q1 => ?_⟩
  obtain ⟨ns, es0, rfl, hm, hA⟩ := hx
  cases q1 with
  | ins o1 r1 a1 =>
    refine ⟨_, _, _, rfl, r1, fld_none hm, O, ds, _, hS.mono e1, hO.mono e1, hA, fun es he vs H2 e2 q2 => ?_⟩
    show spD g (_ :: (vs ++ [])) H2 Q E
    rw [List.append_nil]
    exact ⟨O, _, P, fun _ _ => False, .cons ((Dq.ins o1 r1 a1).mono e2) q2, (hO.mono e1).mono e2, he, fun d hd v H3 e3 q3 => k d hd v H3 ((e1.trans e2).trans e3) q3, fun _ _ z => z.elim⟩
/-! dicts -/
def wDIn (Wi Wo : WE) : WE := fun ds P => Wi ds fun y => Wo ds fun x => ∃ ks es q, x = .dct ks es ∧ keyD y = some q ∧ P (.bl (valD ks es q).isSome)
theorem din_red {σ : L2.St} {H : Hp} {Q : VK} (h : tW (wDIn Wi Wo) σ H Q) : tDIn (tW Wi) (tW Wo) σ H Q := by
  obtain ⟨O, ds, P, hS, hO, hW, k⟩ := h
  refine ⟨O, ds, _, hS, hO, hW, fun y hy v H1 e1 q1 => ⟨O, ds, _, hS.mono e1, hO.mono e1, hy, fun x hx u H2 e2 q2 => ?_⟩⟩
  obtain ⟨ks, es, q, rfl, hk, hp⟩ := hx
  have ek := keyD_kV hk q1
  subst ek
  cases q2 with
  | dct o1 r1 a1 =>
    refine ⟨_, _, rfl, DGet.k r1, ?_⟩
    rcases val_rel (q := q) (ks := ks) a1 with ⟨d, v, h1, h2, h3⟩ | ⟨h1, h2⟩
    · rw [h1] at hp
      rw [h2]
      exact k _ hp _ _ (e1.trans e2) (.bl _)
    · rw [h1] at hp
      rw [h2]
      exact k _ hp _ _ (e1.trans e2) (.bl _)
theorem wt_din (hu : X.A.units + 1 < cLine) (hi : PE X i (tW Wi)) (ho : PE X o (tW Wo)) (hm : behindInMarks .In o = false) : PT X (.Compare i [.In] [o] pos) (tTW (wTest (wDIn Wi Wo))) :=
  PT.weak (pt_cmp (pc_din hu hi ho) hm) fun σ H Q h => din_red (Q := fun x H' => ∃ k, x = .bl k ∧ Q k H') (test_red h)
theorem we_din (hu : X.A.units + 1 < cLine) (hi : PE X i (tW Wi)) (ho : PE X o (tW Wo)) (hm : behindInMarks .In o = false) : PE X (.Compare i [.In] [o] pos) (tW (wDIn Wi Wo)) :=
  PE.weak (pe_cmp (pc_din hu hi ho) hm) fun _ _ _ h => din_red h
/-- d[k], k there -/
def wDIx (Wo Wi : WE) : WE := fun ds P => Wo ds fun x => Wi ds fun y => ∃ ks es q, x = .dct ks es ∧ keyD y = some q ∧ ∃ d, valD ks es q = some d ∧ P d
theorem we_dix (hu : X.A.units + 1 < cLine) (ho : PE X o (tW Wo)) (hi : PE X i (tW Wi)) (hs : NoSl i) : PE X (.Subscript o i pos) (tW (wDIx Wo Wi)) :=
  PE.weak (pe_dget hu ho hi hs) fun σ H Q ⟨O, ds, P, hS, hO, hW, k⟩ => ⟨O, ds, _, hS, hO, hW, fun x hx v H1 e1 q1 => ⟨O, ds, _, hS.mono e1, hO.mono e1, hx, fun y hy u H2 e2 q2 => by
    obtain ⟨ks, es, q, rfl, hk, d, hd, hp⟩ := hy
    have ek := keyD_kV hk q2
    subst ek
    cases q1 with
    | dct o1 r1 a1 =>
      have r2 := e2.keep _ _ o1 r1 (by intro ps z; cases z)
      have a2 := a1.mono e2
      rcases val_rel (q := q) (ks := ks) a2 with ⟨d', v, h1, h2, h3⟩ | ⟨h1, h2⟩
      · rw [hd] at h1
        cases h1
        exact ⟨_, v, rfl, by rw [← h2]; exact DGet.k r2, k _ hp v H2 (e1.trans e2) h3⟩
      · rw [hd] at h1
        cases h1⟩⟩
/-- d.get(k) -/
def wDGetN (Wo Wi : WE) : WE := fun ds P => Wo ds fun x => ∃ ks es, x = .dct ks es ∧ Wi ds fun y => ∃ q, keyD y = some q ∧ P ((valD ks es q).getD .non)
theorem we_dget1 (hu : X.A.units + 1 < cLine) (ho : PE X o (tW Wo)) (hi : PE X i (tW Wi)) (m : M1 X o "get" apos i pos) : PE X (.Call (.Attribute o "get" apos) [i] [] pos) (tW (wDGetN Wo Wi)) :=
  PE.weak (pe_dget1 hu ho hi m) fun σ H Q ⟨O, ds, P, hS, hO, hW, k⟩ => ⟨O, ds, _, hS, hO, hW, fun x hx v H1 e1 q1 => by
    obtain ⟨ks, es, rfl, hw⟩ := hx
    cases q1 with
    | dct o1 r1 a1 =>
      refine ⟨_, rfl, .inl ⟨_, .of r1⟩, O, ds, _, hS.mono e1, hO.mono e1, hw, fun y hy u H2 e2 q2 => ?_⟩
      obtain ⟨q, hk, hp⟩ := hy
      have ek := keyD_kV hk q2
      subst ek
      have r2 := e2.keep _ _ o1 r1 (by intro ps z; cases z)
      refine ⟨_, DGet.k r2, ?_⟩
      rcases val_rel (q := q) (ks := ks) (a1.mono e2) with ⟨d', v, h1, h2, h3⟩ | ⟨h1, h2⟩
      · rw [h1] at hp
        rw [h2]
        exact k _ hp v H2 (e1.trans e2) h3
      · rw [h1] at hp
        rw [h2]
        exact k _ hp _ H2 (e1.trans e2) .non⟩
end
/-! ### a method's call -/
section
variable {X : Cx} {k : Nat} {C f : Addr} {fd : FuncData} {ps : List Str} {m : Str} {apos pos : Pos} {o e : Expr} {es : List Expr} {Wo : WE} {A : WA} {g : DSp} {CX : CXT} {pl : Sem Bool}
theorem we_meth (ho : PE X o (tW Wo)) (c : Cls X.K C) (hm : Meth X.K C m f) (F : FnOk X.prog X.w X.K X.mg X.base (L2.CX X.prog X.w) k f fd ps (spD g)) (hr : Room k X.A) (hb : Binds X.K fd ps []) (ha : PA X (e :: es) (tAW A))
    (hst : starEach (e :: es) X.env = (false, eval e X.env) :: starEach es X.env := by rfl) (hpl : (backTo pos (starEach es X.env)).any (·.1) = false := by rfl)
    (ht : eval (.Call (.Attribute o m apos) (e :: es) [] pos) X.env = (do
      let it ← eval o X.env; standAt apos.atName; let (fn, first) ← holding [it] (getMethod it m pl)
      callWith pos fn first (backTo pos (starEach (e :: es) X.env)) (backToKw pos (keywordEach [] X.env))) := by rfl) :
    PE X (.Call (.Attribute o m apos) (e :: es) [] pos) (tW (wMeth C m (quiet g) Wo A)) := PE.weak (pe_meth ho c hm F hr hb .nil passL ha hst hpl ht) fun _ _ _ h => meth_red h
end
end DL

set_option maxHeartbeats 4000000
namespace PySem
open PySem PySem.Spec PySem.Calls PyProof.Rows
/-- enumerate(v) of what begins as o -/
theorem dl_enum_new {v : Value} {cell : Obj} {Hc : Heap → Prop} (B : Begins v cell Hc) : Meets (Builtin.«enumerate.__new__» ⟨[.type "enumerate", v], []⟩) (fun _ R s => Hc s.heap ∧
    R (.ok (.ret (.ref (s.heap.push cell).objs.size))) { s with heap := (s.heap.push cell).push { cls := .type "enumerate", data := .fields #[.none, .bool false, .ref s.heap.objs.size, rawInt 0, .none, .none] } }) :=
  .of_wp fun prog w A R s hyp => by
    obtain ⟨h0, gens, drawn, toks, os⟩ := s
    obtain ⟨hc, hyp⟩ := hyp
    have hsub := sub_enumerate
    have begin_ : ∀ {A' : Around} {E Q : Value → Shared → Prop}, Q (.ref h0.objs.size) ⟨h0.push cell, gens, drawn, toks, os⟩ → wpAny (model prog w) A' (pyIter v) Q E ⟨h0, gens, drawn, toks, os⟩ :=
      fun {A' E Q} q => B.iter prog w _ _ ⟨h0, gens, drawn, toks, os⟩ _ hc q
    wp_walk using begin_
    refine wpAny_stack_any fun frames => wpAny_pure ?_
    split
    · rename_i cl _ _ _ _ _
      cases (cl == Value.type "enumerate") <;> (wp_walk using begin_; exact ⟨_, rfl, hyp⟩)
    · wp_walk using begin_
      exact ⟨_, rfl, hyp⟩
theorem dl_enum_tuple {prog : Program} {w : World} {A : Around} {E : Value → Shared → Prop} {s : Shared} {t : Addr} {items : Array Value} {Q : Value → Shared → Prop} (tup : s.heap.IsTuple t items)
    (k : ∀ h', IsEnum h' (s.heap.objs.size + 1) s.heap.objs.size 0 .none → h'.IsTupleIter s.heap.objs.size t 0 → (∀ b o, s.heap.get? b = some o → h'.get? b = some o) → Q (.ref (s.heap.objs.size + 1)) { s with heap := h' }) :
    wpAny (model prog w) A (call (.type "enumerate") [.ref t]) Q E s := by
  refine callType_new F.called_enumerate (by decide) (F.typeCall_enumerate_1 _) (F.newCall_enumerate_1 _) (fun obj => F.args_object_init_2 obj _) F.entry_enumerate_new (dl_enum_new (begins_tuple t items)) ⟨tup, ?_⟩
  generalize hit : ({ cls := .type "tuple_iterator", data := .fields #[.ref t, .int 0 0] } : Obj) = cell
  have free : cell.isFreed = false := by rw [← hit]; rfl
  have sz : (s.heap.push cell).objs.size = s.heap.objs.size + 1 := Heap.size_push ..
  show _ ∧ _
  rw [sz]
  have made : IsEnum ((s.heap.push cell).push { cls := .type "enumerate", data := .fields #[.none, .bool false, .ref s.heap.objs.size, rawInt 0, .none, .none] }) (s.heap.objs.size + 1) s.heap.objs.size 0 .none := by
    have z := Heap.get?_push_size (s.heap.push cell) (o := { cls := .type "enumerate", data := .fields #[.none, .bool false, .ref s.heap.objs.size, rawInt 0, .none, .none] }) rfl
    rw [sz] at z
    exact z
  exact ⟨⟨_, made, rfl⟩, k _ made ⟨cell, Heap.get?_push_of_some _ (Heap.get?_push_size _ free), by rw [← hit], by subst hit; rfl⟩ fun b o y => Heap.get?_push_of_some _ (Heap.get?_push_of_some _ y)⟩
end PySem
namespace DL
variable [TabCtx]
open PySem PySem.Spec PyProof.Rows L2
/-- the tuple at a, each item in a new pair -/
def ItE (K : PySem.W.Frag) (a : Addr) : It :=
  ⟨fun i H => ∃ xs x, SqT K H a xs ∧ xs[i]? = some x, fun i H v H' => ∃ T x, v = .ref T ∧ H T = none ∧ H' = upd H T (.tup [.int (i : Nat), x]) ∧ ∀ xs, SqT K H a xs → xs[i]? = some x, fun i H => ∃ xs, SqT K H a xs ∧ xs.length ≤ i⟩
theorem turn_enumE {P : Program} {w : World} {K : PySem.W.Frag} {elts : List Expr} {kk : Nat} {tpos : Pos} (a e it : Addr) :
    Turn P w K (.Tuple elts kk tpos) (ItE K a) [e, it] e (fun i h => (∃ old, IsEnum h e it ((i : Nat) : Int) old) ∧ h.IsTupleIter it a i) where
  mem := List.mem_cons_self
  obj := fun i h ⟨⟨old, he⟩, ⟨o, ho, hc, hd⟩⟩ b hb => by
    rcases List.mem_cons.mp hb with z | z
    · subst z
      exact ⟨_, he, fun v q => nomatch q⟩
    · rw [List.mem_singleton.mp z]
      exact ⟨o, ho, fun v q => by rw [hd] at q; cases q⟩
  keep := fun i h h' ⟨⟨old, he⟩, hit⟩ k => ⟨⟨old, k e List.mem_cons_self _ he⟩, hit.at fun o q => k it (List.mem_cons_of_mem _ List.mem_cons_self) o q⟩
  item := by
    rintro X rfl rfl rfl calm i pins s σ H E I hf ⟨⟨old, he⟩, hit⟩ ⟨xs, x, hq, hx⟩
    obtain ⟨its, rv, p, hz⟩ := I.tuple hq
    have tup : s.heap.IsTuple a its.toArray := p
    obtain ⟨u, hu, ru⟩ := rv.get hx
    have lte : e < s.heap.objs.size := Heap.lt_size he
    obtain ⟨oi, hoi, hci, hdi⟩ := id hit
    obtain ⟨ot, hot, hct, _⟩ := id tup
    have lti : it < s.heap.objs.size := Heap.lt_size hoi
    have e_it : e ≠ it := fun z => by
      subst z
      rw [he] at hoi
      cases hoi
      exact absurd (Value.type.inj hci) (by decide)
    have a_it : a ≠ it := fun z => by
      subst z
      rw [hot] at hoi
      cases hoi
      rw [hct] at hci
      exact absurd hci (by decide)
    have e_a : e ≠ a := fun z => by
      subst z
      rw [he] at hot
      cases hot
      exact absurd (Value.type.inj hct) (by decide)
    have il : i < its.toArray.size := by
      obtain ⟨h1, _⟩ := List.getElem?_eq_some_iff.mp hu
      simpa using h1
    refine wpAny_pyNext_enum_itemD (Draws.tuple (A := X.A.in1) (I.ok.hd calm) it a a_it its.toArray) he ⟨hit, tup⟩ il e_it (by simp [e_it, e_a]) fun y h' tk hy out st' hT hsz kp => ?_
    have ey : y = u := by
      have z : its.toArray[i]? = some u := by simpa using hu
      rw [z] at hy
      exact (Option.some.inj hy).symm
    subst ey
    refine ⟨_, rfl, wpAny_letOwnedTupleGo_enum (s := { s with heap := h', toks := tk + 1 }) out fun h'' he' sb => ?_⟩
    have tT : h''.get? s.heap.objs.size = some { cls := .type "tuple", data := .seq #[.int i tk, y] } := (sb.2 _ (Nat.ne_of_gt lte)).trans hT
    have fresh : ObjOk X.prog X.w (upd H s.heap.objs.size (.tup [.int (i : Nat), x])) h'' s.heap.objs.size (.tup [.int (i : Nat), x]) :=
      ⟨by show 2 ≤ sizeLine; decide, [.int i tk, y], .cons ⟨_, rfl⟩ (.cons ru .nil), ⟨_, tT, rfl, _, rfl⟩⟩
    have J : Inv X pins σ (upd H s.heap.objs.size (.tup [.int (i : Nat), x])) { s with heap := h'', toks := tk + 1 } :=
      I.turnedNew (ch := [e, it]) (fun b ob hb q => (sb.2 b (fun z => hb (by rw [z]; exact List.mem_cons_self))).trans (kp b ob (fun z => hb (by rw [z]; exact List.mem_cons_self)) (fun z => hb (by rw [z]; exact List.mem_cons_of_mem _ List.mem_cons_self)) q)) hf (Nat.le_refl _) fresh
    refine ⟨.ref s.heap.objs.size, _, J, rfl, ⟨_, x, rfl, I.hok.fresh (Nat.le_refl _), rfl, fun ys hy' => by rw [I.tuple_inj hy' hq]; exact hx⟩, ⟨⟨y, ?_⟩, st'.1.at fun o q => (sb.2 it e_it.symm).trans q⟩, fun b hb => ?_⟩
    · rw [show ((i + 1 : Nat) : Int) = (i : Int) + 1 by omega]
      exact he'
    · have lb : b < s.heap.objs.size := by
        rcases List.mem_cons.mp hb with z | z
        · rw [z]; exact lte
        · rw [List.mem_singleton.mp z]; exact lti
      rw [upd_ne (Nat.ne_of_lt lb)]
      exact (hf b hb).1
  done := by
    rintro X rfl rfl rfl calm i pins s σ H E I hf ⟨⟨old, he⟩, hit⟩ ⟨xs, hq, hx⟩
    obtain ⟨its, rv, p, hz⟩ := I.tuple hq
    have tup : s.heap.IsTuple a its.toArray := p
    obtain ⟨oi, hoi, hci, hdi⟩ := id hit
    obtain ⟨ot, hot, hct, _⟩ := id tup
    have a_it : a ≠ it := fun z => by
      subst z
      rw [hot] at hoi
      cases hoi
      rw [hct] at hci
      exact absurd hci (by decide)
    obtain ⟨f0, f1, f2, f3, f4, f5⟩ := hf it (List.mem_cons_of_mem _ List.mem_cons_self)
    have none_ : its.toArray[i]? = none := by
      have := rv.length
      simp only [List.getElem?_toArray]
      exact List.getElem?_eq_none (by omega)
    have calmA : X.A.in1.handled = none := I.ok.hd calm
    have D : Draws X.prog X.w X.A.in1 it [it, a] i (fun _ _ => True) (fun j h => j = i ∧ h.IsTupleIter it a i ∧ h.IsTuple a its.toArray) :=
      ⟨fun j h st => ⟨_, st.2.1.choose_spec.1⟩, fun j h h' st k => ⟨st.1, st.2.1.at fun o q => k it List.mem_cons_self o q, st.2.2.at fun o q => k a (List.mem_cons_of_mem _ List.mem_cons_self) o q⟩,
        fun j s' Q E' lt st _ => absurd st.1 (Nat.ne_of_lt lt), fun s' Q E' st hE => wpAny_nextOf_tuple_end calmA st.2.1 st.2.2 none_ hE⟩
    exact wpAny_pyNext_enum_endD D he ⟨rfl, hit, tup⟩ fun h' eb => ⟨rfl, I.turned (t' := s.toks) (fun b o hb q => eb b o hb q) f0 f1 f3 f4 f5⟩
  self := fun A i s Q E ⟨⟨_, he⟩, _⟩ h => wpAny_pyIter_enum he h
end DL

set_option maxHeartbeats 4000000
namespace DL
open PySem PySem.Spec PyProof.Rows L2
variable [TabCtx]
/-! ### for i, x in enumerate(a tuple) -/
def iEnE (K : PySem.W.Frag) (te : TE) : TI := fun σ H R => te σ H fun v H1 => ∃ a xs, v = .ref a ∧ SqT K H1 a xs ∧ R (ItE K a) H1
theorem boot_enumT : bootBuiltins "enumerate" = some (.type "enumerate") := by decide +kernel
theorem pi_enE {X : Cx} {e : Expr} {te : TE} {p pos tpos : Pos} {elts : List Expr} {kk : Nat} (hg : Gl X "enumerate") (hm : X.mg "enumerate" = none) (he : PE X e te) (hs : starEach [e] X.env = (false, eval e X.env) :: starEach [] X.env := by rfl) (hs1 : starEach [e] X.env = [(false, eval e X.env)] := by rfl) :
    PI X (.Tuple elts kk tpos) (.Call (.Name "enumerate" p) [e] [] pos) (iEnE X.K te) := by
  refine ⟨fun pins s σ H R inv h => ?_⟩
  have args := (pa_cons he pa_nil hs).run pos pins s σ H (fun vs H1 => ∃ a xs, vs = [.ref a] ∧ SqT X.K H1 a xs ∧ R (ItE X.K a) H1) inv
    (show te σ H fun v H1 => (fun r H2 => ∃ a xs, v :: r = [.ref a] ∧ SqT X.K H2 a xs ∧ R (ItE X.K a) H2) [] H1 from by
      have e : (fun v H1 => ∃ a xs, v = V.ref a ∧ SqT X.K H1 a xs ∧ R (ItE X.K a) H1) = fun v H1 => ∃ a xs, v :: [] = [V.ref a] ∧ SqT X.K H1 a xs ∧ R (ItE X.K a) H1 := by
        funext v H1
        simp
      rw [← e]
      exact h)
  refine Call_ (ld_blt inv hg hm boot_enumT (PyProof.Rows.callWith_type1 (thn args fun us s1 ⟨vs, H1, inv1, r1, q1⟩ => ?_) hs1 rfl))
  obtain ⟨a, xs, ex, hq, q⟩ := q1
  subst ex
  cases r1 with
  | cons r rr =>
    cases rr
    cases r
    obtain ⟨its, rv, tup, hz⟩ := inv1.tuple hq
    refine dl_enum_tuple (show s1.heap.IsTuple a its.toArray from tup) fun h' made hit kp => wpAny_pyIter_enum made ?_
    have inv2 : Inv X pins σ H1 { s1 with heap := h' } := inv1.kept (t' := s1.toks) kp
    refine ⟨s1.heap.objs.size + 1, [s1.heap.objs.size + 1, s1.heap.objs.size], _, _, H1, rfl, inv2, turn_enumE a _ _, ⟨⟨.none, made⟩, hit⟩, fun b hb => ?_, q⟩
    have above : s1.heap.objs.size ≤ b := by
      rcases List.mem_cons.mp hb with z | z
      · rw [z]; exact Nat.le_succ _
      · rw [List.mem_singleton.mp z]; exact Nat.le_refl _
    exact inv1.fpOk above (inv1.hok.fresh above)
theorem walk_enE {K : PySem.W.Frag} {a : Addr} {xs : List V} : Walk (ItE K a) xs.length (fun H => SqT K H a xs) (fun i H v H' => ∃ T x, v = .ref T ∧ H T = none ∧ H' = upd H T (.tup [.int (i : Nat), x]) ∧ xs[i]? = some x) :=
  ⟨fun i _ hi q => ⟨xs, xs[i], q, by simp [hi]⟩, fun _ q => ⟨xs, q, Nat.le_refl _⟩, fun i H v H' _ q ⟨T, x, h1, h2, h3, h4⟩ => ⟨T, x, h1, h2, h3, h4 xs q⟩⟩
/-- for x1, x2 in enumerate(W), by what holds between the turns -/
def gForE (i1 i2 : Nat) (W : WE) (G : WS) : WS := fun ds N R Z => W ds fun d => ∃ xs, d = .tup xs ∧ ∃ I : Nat → Sl → Prop, I 0 ds ∧ (∀ (j : Nat) x ds', xs[j]? = some x → I j ds' → G ((ds'.set i1 (some (.int (j : Int)))).set i2 (some x)) (I (j + 1)) R Z) ∧ ∀ ds', I xs.length ds' → N ds'
theorem ws_forE {X : Cx} {i1 i2 kk : Nat} {x1 x2 : Str} {p1 p2 tpos p pos pf : Pos} {e : Expr} {body : List Stmt} {E : XK} {G : WS} {W : WE} (hp : PassesOwn (model X.prog X.w) X.A X.env X.xe) (hc : X.calm = true) (hg : Gl X "enumerate") (hm : X.mg "enumerate" = none) (he : PE X e (tW W))
    (h1 : PG X (.Name x1 p1) (gName i1)) (h2 : PG X (.Name x2 p2) (gName i2)) (hb : PSs X body (tSW E G)) (hs : starEach [e] X.env = (false, eval e X.env) :: starEach [] X.env := by rfl) (hs1 : starEach [e] X.env = [(false, eval e X.env)] := by rfl)
    (hf : ∀ x, foldedSetIterable (.Call (.Name "enumerate" p) [e] [] pos) X.env x = pure x := by intro _; rfl) :
    PS X (.For (.Tuple [.Name x1 p1, .Name x2 p2] kk tpos) (.Call (.Name "enumerate" p) [e] [] pos) body [] pf) (tSW E (gForE i1 i2 W G)) :=
  PS.weak (ps_for hp hc (pi_enE hg hm he hs hs1) (pg_tup (n := 2) hc (pgs_cons h1 (pgs_cons h2 pgs_nil))) hb hf) fun D σ H ⟨O, ds, N, R, Z, hS, hO, hG, hN, hR, hZ⟩ => ⟨O, ds, _, hS, hO, hG, fun d hd v H1 e1 q1 => by
    obtain ⟨xs, rfl, I, h0, hst, hend⟩ := hd
    cases q1 with
    | @tup a vs _ ox rd al =>
      refine ⟨a, vs, rfl, .inl rd, ?_⟩
      have lw := al.length
      refine for_it walk_enE (fun j σ2 H2 => ∃ ds', I j ds' ∧ SlD O H2 σ2 ds' ∧ Ext O H1 H2) ⟨ds, h0, hS.mono e1, .refl _ _⟩ (fun j σ2 H2 _ ⟨_, _, _, e2⟩ => .inl (rd_keep e2.keep ox rd)) ?_ ?_
      · rintro j v σ2 H2 H' hj ⟨ds', hI, hS2, e2⟩ ⟨T, x, rfl, hT, rfl, hx⟩
        have hj' : j < xs.length := by rw [← lw]; exact hj
        obtain ⟨u, eu, qu⟩ := al.get (i := j) (d := xs[j]) (by simp [hj'])
        rw [hx] at eu
        cases eu
        have e3 := e1.trans e2
        have en : Ext O H2 (upd H2 T (.tup [.int (j : Nat), x])) := .new hT
        have e4 := e3.trans en
        refine ⟨T, _, rfl, .inl (.of upd_same), rfl, _, _, rfl, _, _, rfl, rfl, ?_⟩
        exact ⟨O, _, I (j + 1), R, Z, ((hS2.mono en).set i1 (.int _)).set i2 (qu.mono (e2.trans en)), hO.mono e4, hst j _ ds' (by simp [hj']) hI, fun d3 h3 σ3 H3 e5 s3 => ⟨d3, h3, s3, e2.trans (en.trans e5)⟩,
          fun d h v H3 e5 q => hR d h v H3 (e4.trans e5) q, fun C d h dx v H3 e5 ox => hZ C d h dx v H3 (e4.trans e5) ox⟩
      · rintro σ2 H2 ⟨ds', hI, hS2, e2⟩
        rw [lw] at hI
        exact hN ds' (hend ds' hI) σ2 H2 (e1.trans e2) hS2⟩
/-- .. while a list is held -/
def gForEH (i1 i2 : Nat) (W : WE) (G : WH) : WH := fun ds dv N R Z => W ds fun d => ∃ xs, d = .tup xs ∧ ∃ I : Nat → Sl → List D → Prop, I 0 ds dv ∧
  (∀ (j : Nat) x ds' dv', xs[j]? = some x → I j ds' dv' → G ((ds'.set i1 (some (.int (j : Int)))).set i2 (some x)) dv' (I (j + 1)) R Z) ∧ ∀ ds' dv', I xs.length ds' dv' → N ds' dv'
theorem hs_forE {X : Cx} {i i1 i2 kk : Nat} {x1 x2 : Str} {p1 p2 tpos p pos pf : Pos} {e : Expr} {body : List Stmt} {E : XK} {G : WH} {W : WE} (n1 : i ≠ i1) (n2 : i ≠ i2) (hp : PassesOwn (model X.prog X.w) X.A X.env X.xe) (hc : X.calm = true) (hg : Gl X "enumerate") (hm : X.mg "enumerate" = none) (he : PE X e (tW W))
    (h1 : PG X (.Name x1 p1) (gName i1)) (h2 : PG X (.Name x2 p2) (gName i2)) (hb : PSs X body (tHW E i G)) (hs : starEach [e] X.env = (false, eval e X.env) :: starEach [] X.env := by rfl) (hs1 : starEach [e] X.env = [(false, eval e X.env)] := by rfl)
    (hf : ∀ x, foldedSetIterable (.Call (.Name "enumerate" p) [e] [] pos) X.env x = pure x := by intro _; rfl) :
    PS X (.For (.Tuple [.Name x1 p1, .Name x2 p2] kk tpos) (.Call (.Name "enumerate" p) [e] [] pos) body [] pf) (tHW E i (gForEH i1 i2 W G)) :=
  PS.weak (ps_for hp hc (pi_enE hg hm he hs hs1) (pg_tup (n := 2) hc (pgs_cons h1 (pgs_cons h2 pgs_nil))) hb hf) fun D σ H ⟨O, p, ws, ds, dv, N, R, Z, op, hi, hd, hG, hN, hR, hZ⟩ => ⟨_, ds, _, hd.sl, hd.ow, hG, fun d hdd v H1 e1 q1 => by
    obtain ⟨xs, rfl, I, h0, hst, hend⟩ := hdd
    cases q1 with
    | @tup a vs _ ox rd al =>
      refine ⟨a, vs, rfl, .inl rd, ?_⟩
      have lw := al.length
      refine for_it walk_enE (fun j σ2 H2 => ∃ ds' dv' ws', I j ds' dv' ∧ ds'[i]? = some (some (.fn p)) ∧ Hd O p ws' H2 σ2 ds' dv' ∧ ExtH O p H1 H2) ⟨ds, dv, ws, h0, hi, hd.mono e1, .refl _ _ _⟩
        (fun j σ2 H2 _ ⟨_, _, _, _, _, _, e2⟩ => .inl (rd_keep (fun b o x h t => e2.keep b o x.hold_out x.hold_ne h t) ox rd)) ?_ ?_
      · rintro j v σ2 H2 H' hj ⟨ds', dv', ws', hI, hi', hd', e2⟩ ⟨T, x, rfl, hT, rfl, hx⟩
        have hj' : j < xs.length := by rw [← lw]; exact hj
        obtain ⟨u, eu, qu⟩ := al.get (i := j) (d := xs[j]) (by simp [hj'])
        rw [hx] at eu
        cases eu
        have en : Ext (O ++ [(p, Own.hold (HO.lst ws'))]) H2 (upd H2 T (.tup [.int (j : Nat), x])) := .new hT
        have hd2 := hd'.mono en
        have e3 := (ExtH.of e1).trans (e2.trans (.of en))
        have kk : ∀ b o, Out (O ++ [(p, Own.hold (HO.lst ws))]) b → H1 b = some o → NT o → upd H2 T (.tup [.int (j : Nat), x]) b = some o := fun b o x h t => en.keep b o (out_rehold x) (e2.keep b o x.hold_out x.hold_ne h t) t
        refine ⟨T, _, rfl, .inl (.of upd_same), rfl, _, _, rfl, _, _, rfl, rfl, ?_⟩
        refine ⟨O, p, ws', _, dv', I (j + 1), R, Z, op, ?_, ⟨(hd2.sl.set i1 (.int _)).set i2 ((qu.keep kk).rehold), hd2.al, hd2.ow⟩, hst j _ ds' dv' (by simp [hj']) hI, fun ds3 dv3 h3 ws3 σ3 H3 e5 hi3 hd3 => ⟨ds3, dv3, ws3, h3, hi3, hd3, e2.trans ((ExtH.of en).trans e5)⟩,
          fun d h v H3 e5 q => hR d h v H3 (e3.trans e5) q, fun C d h dx v H3 e5 ox => hZ C d h dx v H3 (e3.trans e5) ox⟩
        rw [List.getElem?_set_ne n2.symm, List.getElem?_set_ne n1.symm]
        exact hi'
      · rintro σ2 H2 ⟨ds', dv', ws', hI, hi', hd', e2⟩
        rw [lw] at hI
        exact hN ds' dv' (hend ds' dv' hI) ws' σ2 H2 ((ExtH.of e1).trans e2) hi' hd'⟩
/-! ### x not in (texts) -/
def dNotIn : DOp := fun x y P => match x, y with
  | .str a, .tup ds => ∃ xs, strsOf ds = some xs ∧ P (.bl (!decide (a ∈ xs)))
  | .str a, .lst ds => ∃ xs, strsOf ds = some xs ∧ P (.bl (!decide (a ∈ xs)))
  | _, _ => False
end DL

set_option maxHeartbeats 4000000
namespace DL
open PySem PySem.Spec PyProof.Rows L2
variable [TabCtx]
/-! ### {k: v for x in ..} -/
/-- an item put into a dict, as data -/
def putD : List Key → List D → Key → D → List Key × List D
  | k :: ks, d :: ds, q, x => if k = q then (k :: ks, x :: ds) else ((k :: (putD ks ds q x).1), d :: (putD ks ds q x).2)
  | _, _, q, x => ([q], [x])
/-- the whole, one item after another -/
def wEachD (f g : D → (D → Prop) → Prop) : List D → List Key → List D → (List Key → List D → Prop) → Prop
  | [], ks, es, P => P ks es
  | x :: xs, ks, es, P => f x fun y => g x fun z => ∃ q, keyD y = some q ∧ es.length < sizeLine ∧ ks.length = es.length ∧ ks.Nodup ∧ wEachD f g xs (putD ks es q z).1 (putD ks es q z).2 P
theorem putD_rel {O : Ow} {H : Hp} {q : Key} {u : V} {x : D} : ∀ {ks : List Key} {vs : List V} {ds : List D}, ks.Nodup → ks.length = ds.length → DqAll O H vs ds → Dq O H u x →
    ∃ ws, putK (ks.zip vs) q u = ((putD ks ds q x).1).zip ws ∧ DqAll O H ws (putD ks ds q x).2
  | [], _, _, _, hl, q0, qx => by
    cases q0 with
    | nil => exact ⟨[u], by simp [putK, putD], .cons qx .nil⟩
    | cons a b => simp at hl
  | k :: ks, _, [], _, hl, _, _ => by simp at hl
  | k :: ks, _, d :: ds, nd, hl, q0, qx => by
    cases q0 with
    | @cons v vs _ _ a b =>
      obtain ⟨nk, nd'⟩ := List.nodup_cons.mp nd
      by_cases e : k = q
      · refine ⟨u :: vs, ?_, by simp only [putD, if_pos e]; exact .cons qx b⟩
        subst e
        have rest : ∀ {ks' : List Key} {vs' : List V}, k ∉ ks' → (ks'.zip vs').map (fun kv => if kv.1 = k then (kv.1, u) else kv) = ks'.zip vs' := by
          intro ks'
          induction ks' with
          | nil => intro vs' _; rfl
          | cons c cs ih =>
            intro vs' hc
            cases vs' with
            | nil => rfl
            | cons w ws =>
              have c1 : ¬ c = k := fun z => hc (by rw [z]; exact List.mem_cons_self)
              simp only [List.zip_cons_cons, List.map_cons, if_neg c1]
              rw [ih fun z => hc (List.mem_cons_of_mem _ z)]
        unfold putK
        simp only [putD, List.zip_cons_cons, List.any_cons, decide_true, Bool.true_or, if_true, List.map_cons]
        rw [rest nk]
      · obtain ⟨ws, h1, h2⟩ := putD_rel (q := q) (u := u) (x := x) nd' (by simpa using hl) b qx
        refine ⟨v :: ws, ?_, by simp only [putD, if_neg e]; exact .cons a h2⟩
        simp only [putD, if_neg e, List.zip_cons_cons]
        rw [← h1]
        unfold putK
        simp only [List.any_cons, decide_eq_false e, Bool.false_or, List.map_cons, if_neg e]
        split <;> simp
end DL

set_option maxHeartbeats 4000000
namespace DL
open PySem PySem.Spec PyProof.Rows L2
variable [TabCtx]
/-- as lc_it, a dict -/
theorem dc_itW {J : It} {n : Nat} {G : Hp → Prop} {Y : Nat → Hp → V → Hp → Prop} (w : Walk J n G Y) {g : TG} {tt : TT} {tk tv : TE} {is : List Nat} {σ : L2.St} {H1 : Hp} {D : Addr} {Q : Hp → Prop} (Pv : Nat → Hp → Prop) (h0 : Pv 0 (upd H1 D (.dK [])))
    (hG : ∀ i H, i ≤ n → Pv i H → G H) (turn : ∀ i x H H', i < n → Pv i H → Y i H x H' → g x (wipe σ is) H' fun σ2 H2 => wipe σ2 is = wipe σ is ∧ tt σ2 H2 fun b H3 =>
      if b = true then tk σ2 H3 fun y H4 => tv σ2 H4 fun z H5 => ∃ kvs k, y = kV k ∧ H5 D = some (.dK kvs) ∧ kvs.length < sizeLine ∧ Pv (i + 1) (upd H5 D (.dK (putK kvs k z))) else Pv (i + 1) H3) (done : ∀ H, Pv n H → Q H) :
    ∃ W : Nat → Nat → Hp → Prop, (∃ m, W 0 m (upd H1 D (.dK []))) ∧ ∀ i m H, W i m H →
      (J.stop i H ∧ Q H) ∨ (J.go i H ∧ ∃ Nx : Hp → Prop, (∀ H', Nx H' → ∃ m', m' < m ∧ W (i + 1) m' H') ∧ ∀ x H', J.yld i H x H' → g x (wipe σ is) H' fun σ2 H2 => wipe σ2 is = wipe σ is ∧ tt σ2 H2 fun b H3 =>
        if b = true then tk σ2 H3 fun y H4 => tv σ2 H4 fun z H5 => ∃ kvs k, y = kV k ∧ H5 D = some (.dK kvs) ∧ kvs.length < sizeLine ∧ Nx (upd H5 D (.dK (putK kvs k z))) else Nx H3) := by
  refine ⟨fun i m H => m = n - i ∧ i ≤ n ∧ Pv i H, ⟨n, by simp, Nat.zero_le _, h0⟩, ?_⟩
  rintro i m H ⟨rfl, le, pv⟩
  have gd := hG i H le pv
  by_cases lt : i < n
  · exact .inr ⟨w.goes i H lt gd, Pv (i + 1), fun H' pv' => ⟨n - (i + 1), by omega, rfl, lt, pv'⟩, fun x H' y => turn i x H H' lt pv (w.yields i H x H' lt gd y)⟩
  · obtain rfl : i = n := by omega
    exact .inl ⟨w.stops H gd, done H pv⟩
def wDc (i : Nat) (Wi : WI) (Wk Wv : WE) : WE := fun ds P => Wi ds fun xs => wEachD (fun x P' => Wk (ds.set i (some x)) P') (fun x P' => Wv (ds.set i (some x)) P') xs [] [] fun ks es => P (.dct ks es)
theorem putD_len : ∀ {ks : List Key} {es : List D} {q : Key} {z : D}, ks.length = es.length → (putD ks es q z).1.length = (putD ks es q z).2.length
  | [], [], _, _, _ => rfl
  | [], _ :: _, _, _, h => by simp at h
  | _ :: _, [], _, _, h => by simp at h
  | k :: ks, d :: ds, q, z, h => by
    unfold putD
    split
    · exact h
    · simpa using putD_len (ks := ks) (es := ds) (by simpa using h)
theorem dc_red {i : Nat} {Wi : WI} {Wk Wv : WE} {σ : L2.St} {H : Hp} {Q : VK} (h : tW (wDc i Wi Wk Wv) σ H Q) : tDc (tIW Wi) (gName i) tYes (tW Wk) (tW Wv) [i] σ H Q := by
  obtain ⟨O, ds, P, hS, hO, hW, k⟩ := h
  refine ⟨O, ds, _, hS, hO, hW, fun xs hx J H1 e1 ⟨G, w, hG⟩ D nD => ?_⟩
  have S1 := hS.mono e1
  have O1 := hO.mono e1
  have oD : Out O D := O1.out nD
  refine dc_itW w (fun j H2 => ∃ ks vs es, H2 D = some (.dK (ks.zip vs)) ∧ DqAll (O ++ [(D, .hold (.dK (ks.zip vs)))]) H2 vs es ∧ OwnAll O H2 ∧ (∀ b o, Out O b → H1 b = some o → NT o → H2 b = some o) ∧
    wEachD (fun x P' => Wk (ds.set i (some x)) P') (fun x P' => Wv (ds.set i (some x)) P') (xs.drop j) ks es fun ks es => P (.dct ks es)) ?h0 ?hG ?hs ?hd
  case h0 => exact ⟨[], [], [], upd_same, .nil, O1.mono (.new nD), (Ext.new nD).keep, by simpa using hx⟩
  case hG =>
    rintro j H2 _ ⟨_, _, _, _, _, _, kp, _⟩
    exact hG H2 kp
  case hs =>
    rintro j x H2 H' hj ⟨ks, vs, es, hD, hq, hO2, kp, hw⟩ ⟨rfl, d, hd, qd⟩
    have ed : xs.drop j = d :: xs.drop (j + 1) := by
      obtain ⟨h1, h2⟩ := List.getElem?_eq_some_iff.mp hd
      rw [List.drop_eq_getElem_cons h1, h2]
    rw [ed] at hw
    refine ⟨?_, ?_⟩
    · show (((σ.set i none).set i (some x)).set i none) = σ.set i none
      rw [List.set_set, List.set_set]
    · show tW Wk _ _ _
      have kp' : ∀ b o, Out (O ++ [(D, .hold (.dK (ks.zip vs)))]) b → H1 b = some o → NT o → H' b = some o := fun b o hb h t => kp b o hb.hold_out h t
      have qd' : Dq (O ++ [(D, .hold (.dK (ks.zip vs)))]) H' x d := (qd.more (fresh_none nD)).keep kp'
      have S2 : SlD (O ++ [(D, .hold (.dK (ks.zip vs)))]) H' ((σ.set i none).set i (some x)) (ds.set i (some d)) := by
        rw [List.set_set]
        exact ((S1.more (fresh_none nD)).keep kp').set i qd'
      have O2 : OwnAll (O ++ [(D, .hold (.dK (ks.zip vs)))]) H' := hO2.hold oD hD
      refine ⟨_, _, _, S2, O2, hw, fun y hy vy H4 e4 q4 => ⟨_, _, _, S2.mono e4, O2.mono e4, hy, fun z hz vz H5 e5 q5 => ?_⟩⟩
      obtain ⟨q, hk, hl, hlen, nd, hrest⟩ := hz
      have e45 := e4.trans e5
      have hD5 := e45.hold_at hD
      have a5 := hq.mono e45
      have ek := keyD_kV hk q4
      subst ek
      obtain ⟨ws, p1, p2⟩ := putD_rel (q := q) nd hlen a5 q5
      have lz : (ks.zip vs).length < sizeLine := by
        rw [List.length_zip, a5.length, hlen, Nat.min_self]
        exact hl
      refine ⟨_, q, rfl, hD5, lz, _, ws, _, by rw [upd_same, p1], ?_, ⟨fun r hr => ?_, hO2.uq, hO2.tabs⟩, fun b o hb h t => ?_, hrest⟩
      · refine (p2.keep fun b o hb h _ => ?_).rehold
        rw [upd_ne hb.hold_ne]
        exact h
      · obtain ⟨u, h1, h2⟩ := e45.own r (List.mem_append_left _ hr) (hO2.here r hr)
        exact ⟨u, by rw [upd_ne (fun e => oD r hr e.symm)]; exact h1, h2.upd (noCode_of hD5)⟩
      · have bD : b ≠ D := ne_of_none h nD
        rw [upd_ne bD]
        exact e45.keep b o (fun r hr => by
          rcases List.mem_append.mp hr with z | z
          · exact hb r z
          · rw [List.mem_singleton.mp z]; exact bD) (kp b o hb h t) t
  case hd =>
    rintro H2 ⟨ks, vs, es, hD, hq, hO2, kp, hw⟩
    rw [List.drop_length] at hw
    exact k _ hw _ H2 (e1.trans ⟨kp, fun p hp _ => hO2.here p hp⟩) (.dct oD hD hq.less)
theorem we_dc {X : Cx} {i : Nat} {x : Str} {kx vx tg iter : Expr} {scope : Scope} {Wi : WI} {Wk Wv : WE} {pos : Pos} (hc : X.calm = true) (hN : X.N.Nodup) (hi : PI X tg iter (tIW Wi)) (ok : BlkOk X.N X.env.scope scope [(x, i)])
    (hg : ∀ (s : Shared) (H : Hp) (C : Addr) (cl : List (Str × Addr)) (fp : List Addr), PG (X.blk s H scope (compEnvC scope cl C X.env) fp) tg (gName i))
    (hk : ∀ (s : Shared) (H : Hp) (C : Addr) (cl : List (Str × Addr)) (fp : List Addr), PE (X.blk s H scope (compEnvC scope cl C X.env) fp) kx (tW Wk))
    (hv : ∀ (s : Shared) (H : Hp) (C : Addr) (cl : List (Str × Addr)) (fp : List Addr), PE (X.blk s H scope (compEnvC scope cl C X.env) fp) vx (tW Wv)) (hs : ∀ x, foldedSetIterable iter X.env x = pure x := by intro _; rfl) :
    PE X (.DictComp kx vx [⟨tg, iter, [], 0⟩] scope pos) (tW (wDc i Wi Wk Wv)) :=
  PE.weak (pe_dc (own := [(x, i)]) hc hN hi ok hg (fun _ _ _ _ _ => pts_nil) hk hv hs) fun σ H Q h => dc_red h
end DL

set_option maxHeartbeats 4000000
namespace DL
open PySem PySem.Spec PyProof.Rows L2
variable [TabCtx]
/-! ### __init__: the instance is held while its fields are stored, in their order -/
abbrev mkI (C dx : Addr) (ns : List Str) (vs : List V) : HO := .ins C dx (ns.zip vs)
structure HdI (C dx : Addr) (ns : List Str) (O : Ow) (p : Addr) (vs : List V) (H : Hp) (σ : L2.St) (ds : Sl) (dv : List D) : Prop where
  sl : SlD (O ++ [(p, .hold (mkI C dx ns vs))]) H σ ds
  al : DqAll (O ++ [(p, .hold (mkI C dx ns vs))]) H vs dv
  ow : OwnAll (O ++ [(p, .hold (mkI C dx ns vs))]) H
section
variable {C dx : Addr} {ns : List Str} {O : Ow} {p : Addr} {vs : List V} {H H' : Hp} {σ : L2.St} {ds : Sl} {dv : List D}
theorem HdI.mono (h : HdI C dx ns O p vs H σ ds dv) (e : Ext (O ++ [(p, .hold (mkI C dx ns vs))]) H H') : HdI C dx ns O p vs H' σ ds dv := ⟨h.sl.mono e, h.al.mono e, h.ow.mono e⟩
theorem HdI.at (h : HdI C dx ns O p vs H σ ds dv) : H p = some (mkI C dx ns vs) := by
  obtain ⟨u, h1, h2⟩ := h.ow.here (p, .hold (mkI C dx ns vs)) (by simp)
  have h2' : u = mkI C dx ns vs := h2
  rw [← h2']
  exact h1
theorem HdI.app (h : HdI C dx ns O p vs H σ ds dv) (op : Out O p) {v : V} {d : D} (q : Dq (O ++ [(p, .hold (mkI C dx ns vs))]) H v d) : HdI C dx ns O p (vs ++ [v]) (upd H p (mkI C dx ns (vs ++ [v]))) σ ds (dv ++ [d]) := by
  have k : ∀ b o, Out (O ++ [(p, Own.hold (mkI C dx ns vs))]) b → H b = some o → NT o → upd H p (mkI C dx ns (vs ++ [v])) b = some o := fun b o hb hh _ => by
    rw [upd_ne hb.hold_ne]
    exact hh
  exact ⟨(h.sl.keep k).rehold, ((h.al.keep k).append (.cons (q.keep k) .nil)).rehold, h.ow.put op⟩
end
theorem putF_zip {f : Str} {v : V} : ∀ {ns : List Str} {vs : List V}, ns[vs.length]? = some f → f ∉ ns.take vs.length → putF f v (ns.zip vs) = ns.zip (vs ++ [v])
  | [], _, h, _ => by simp at h
  | n :: ns, [], h, _ => by
    simp at h
    subst h
    simp [putF]
  | n :: ns, u :: us, h, hn => by
    have e : ¬ n = f := fun z => hn (by simp [z])
    have h' : ns[us.length]? = some f := by simpa using h
    have hn' : f ∉ ns.take us.length := fun z => hn (by simp [z])
    show (if n = f then _ else (n, u) :: putF f v (ns.zip us)) = (n, u) :: ns.zip (us ++ [v])
    rw [if_neg e, putF_zip h' hn']
def tKW (E : XK) (i : Nat) (C : Addr) (ns : List Str) (G : WH) : TS := fun Dn σ H => ∃ (O : Ow) (p dx : Addr) (vs : List V) (ds : Sl) (dv : List D) (N : Sl → List D → Prop) (R : DL.D → Prop) (Z : Addr → DL.D → Prop), Out O p ∧ ds[i]? = some (some (.fn p)) ∧ HdI C dx ns O p vs H σ ds dv ∧ G ds dv N R Z ∧
  (∀ ds' dv', N ds' dv' → ∀ vs' σ' H', ExtH O p H H' → ds'[i]? = some (some (.fn p)) → HdI C dx ns O p vs' H' σ' ds' dv' → Dn.nx σ' H') ∧ (∀ d, R d → ∀ v H', ExtH O p H H' → Dq O H' v d → Dn.rt v H') ∧
  ∀ C d, Z C d → ∀ dx v H', ExtH O p H H' → Out O dx → H' dx = some (.xd [("told", v)]) → Dq O H' v d → E (.ref C) (some dx) H'
def gField (ns : List Str) (f : Str) (W : WE) : WH := fun ds dv N _ _ => W ds fun d => ns[dv.length]? = some f ∧ f ∉ ns.take dv.length ∧ dv.length < 1000 ∧ N ds (dv ++ [d])
section
variable {X : Cx} {E : XK} {st : Stmt} {rest : List Stmt} {G1 G2 : WH} {G : WS} {i : Nat} {C : Addr} {ns : List Str}
theorem ks_lift (h : PS X st (tSW E G)) : PS X st (tKW E i C ns (gLift i G)) := PS.weak h fun D σ H ⟨O, p, dx, vs, ds, dv, N, R, Z, op, hi, hd, hG, hN, hR, hZ⟩ =>
  ⟨_, ds, _, R, Z, hd.sl, hd.ow, hG, fun ds' ⟨h1, h2⟩ σ' H' e s => hN ds' dv h2 vs σ' H' (.of e) (by rw [h1]; exact hi) ⟨s, hd.al.mono e, hd.ow.mono e⟩, fun d h v H' e q => hR d h v H' (.of e) q.less, fun C d h dx v H' e ox hx q => hZ C d h dx v H' (.of e) ox.hold_out hx q.less⟩
theorem kss_nil : PSs X [] (tKW E i C ns gNextH) := PSs.weak pss_nil fun D σ H ⟨O, p, dx, vs, ds, dv, N, R, Z, op, hi, hd, hG, hN, hR, hZ⟩ => hN ds dv hG vs σ H (.refl _ _ _) hi hd
theorem kss_one (h1 : PS X st (tKW E i C ns G1)) : PSs X [st] (tKW E i C ns G1) := pss_one h1
theorem kss_cons (h1 : PS X st (tKW E i C ns G1)) (h2 : PSs X rest (tKW E i C ns G2)) : PSs X (st :: rest) (tKW E i C ns (gSeqH G1 G2)) :=
  PSs.weak (pss_cons h1 h2) fun D σ H ⟨O, p, dx, vs, ds, dv, N, R, Z, op, hi, hd, hG, hN, hR, hZ⟩ => ⟨O, p, dx, vs, ds, dv, _, R, Z, op, hi, hd, hG, fun ds' dv' h vs' σ' H' e hi' hd' =>
    ⟨O, p, dx, vs', ds', dv', N, R, Z, op, hi', hd', h, fun ds2 dv2 h2 vs2 σ2 H2 e2 hi2 hd2 => hN ds2 dv2 h2 vs2 σ2 H2 (e.trans e2) hi2 hd2, fun d h v H2 e2 q => hR d h v H2 (e.trans e2) q, fun C d h dx v H2 e2 ox => hZ C d h dx v H2 (e.trans e2) ox⟩, hR, hZ⟩
/-- self.f = e -/
theorem ks_field {f x : Str} {e : Expr} {W : WE} {pos pos' p1 : Pos} (c : Cls X.K C) (na : NoAttr X.K C f) (hx : PE X (.Name x p1) (tVar i)) (he : PE X e (tW W)) (hs : swapsWith e (some (.Attribute (.Name x p1) f pos')) pos.line X.env = pure false := by rfl) :
    PS X (.Assign [.Attribute (.Name x p1) f pos'] e pos) (tKW E i C ns (gField ns f W)) :=
  PS.weak (ps_fld hx he hs) fun D σ H ⟨O, p, dx, vs, ds, dv, N, R, Z, op, hi, hd, hG, hN, hR, hZ⟩ => ⟨_, ds, _, hd.sl, hd.ow, hG, fun d ⟨h1, h2, h3, h4⟩ v H1 e1 q1 => by
    have hd1 := hd.mono e1
    obtain ⟨u, hu, qu⟩ := hd1.sl.val i _ hi
    cases qu
    have lv : vs.length = dv.length := hd1.al.length
    refine ⟨_, hu, p, C, dx, _, rfl, hd1.at, c, na, ?_, ?_⟩
    · rw [List.length_zip]
      exact Nat.lt_of_le_of_lt (Nat.min_le_right _ _) (by rw [lv]; exact h3)
    · rw [putF_zip (by rw [lv]; exact h1) (by rw [lv]; exact h2)]
      exact hN ds _ h4 _ σ _ ((ExtH.of e1).trans (.put op (noCode_of hd1.at))) hi (hd1.app op q1)⟩
end
/-- the promise of an __init__: of the rest of its arguments by data; P: the fields' values in their order -/
abbrev DIn := List D → (List D → Prop) → (Addr → D → Prop) → Prop
def spIni (C : Addr) (ns : List Str) (g : DIn) : Sp := fun ws H Q E => ∃ (O : Ow) (p dx : Addr) (vs : List V) (es : List D) (P : List D → Prop) (Z : Addr → D → Prop), ws = .ref p :: vs ∧ Out O p ∧ H p = some (.ins C dx []) ∧ DqAll (O ++ [(p, .hold (mkI C dx ns []))]) H vs es ∧ OwnAll O H ∧ g es P Z ∧
  (∀ dv, P dv → ∀ us H', ExtH O p H H' → H' p = some (mkI C dx ns us) → DqAll O H' us dv → Q .non H') ∧ ∀ C' d, Z C' d → ∀ dx v H', ExtH O p H H' → Out O dx → H' dx = some (.xd [("told", v)]) → Dq O H' v d → E (.ref C') (some dx) H'
section
variable {P : Program} {w : World} {K : PySem.W.Frag} {mg : Str → Option Value} {base : Heap}
theorem fn_ini {x qual : Str} {st : Stmt} {f C : Addr} {fd : FuncData} {N ps : List Str} {ns : List Str} {k : Nat} {g : DIn} (F : Fun K x qual st f fd) (S : FnScope N ps (defScope st)) (len : ∀ es P Z, g es P Z → es.length + 1 = ps.length)
    (hbody : ∀ (cdv : Value) (A : Around) (outer : List Env) (s : Shared) (H : Hp) (E : XK), Room k (A.deeper (envOfC qual (defScope st) s.heap.objs.size f cdv)) →
      ∃ G, PSs (cxOf (L2.CX P w) P w K mg base N qual (defScope st) f cdv A outer s H E) (defBody st) (tKW E 0 C ns G) ∧ ∀ es P Z, g es P Z → ∀ p, G (startD N (.fn p :: es)) [] (fun _ dv => P dv) (fun _ => False) Z) :
    FnOk P w K mg base (L2.CX P w) (k + 1) f fd ps (spIni C ns g) := by
  refine F.okX S (fun vs H Q E ⟨O, p, dx, ws, es, P, Z, e, _, _, hq, _, hg, _⟩ => ?_) (fun cdv A outer s H vs Q E hr ⟨O, p, dx, ws, es, P, Z, e, op, hp, hq, hO, hg, hP, hZ⟩ => ?_)
  · rw [e, List.length_cons, hq.length]
    exact len _ _ _ hg
  · subst e
    obtain ⟨G, h1, h2⟩ := hbody cdv A outer s H E hr
    have empty : mkI C dx ns [] = .ins C dx [] := by simp [mkI]
    have hp' : H p = some (mkI C dx ns []) := by rw [empty]; exact hp
    have hs : SlD (O ++ [(p, .hold (mkI C dx ns []))]) H (L2.start N (.ref p :: ws)) (startD N (.fn p :: es)) := start_sl (.cons (.fn p) hq)
    refine ⟨_, h1, O, p, dx, [], startD N (.fn p :: es), [], _, _, Z, op, ?_, ⟨hs, .nil, OwnAll.hold hO op hp'⟩, h2 es P Z hg p, fun ds' dv' h us σ' H' e _ hd => hP dv' h us H' e hd.at hd.al.less, fun _ z => z.elim, hZ⟩
    rfl
end
end DL

set_option maxHeartbeats 4000000
namespace DL
open PySem PySem.Spec PyProof.Rows L2
variable [TabCtx]
/-! ### C(..): a new instance -/
section
variable {X : Cx} {CX : CXT} {k : Nat} {C f : Addr} {fd : FuncData} {ps ns : List Str} {x : Str} {p pos : Pos} {e : Expr} {es : List Expr} {A : WA} {g : DIn} {sp : Sp} {t : TA} {W : WX}
/-- as pe_make, what it may let out by the slots as they stand -/
def tMakeS (C : Addr) (sp : Sp) (E : L2.St → XK) (t : TA) : TE := fun σ H Q => t σ H fun vs H1 => ∀ a dx, H1 a = none → H1 dx = none → dx ≠ a → sp (.ref a :: vs) (upd (upd H1 dx (.own a)) a (.ins C dx [])) (fun v H2 => v = .non ∧ Q (.ref a) H2) (E σ)
theorem pe_makeS {E : L2.St → XK} (M : Mk X.K C f) (F : FnOk X.prog X.w X.K X.mg X.base CX k f fd ps sp) (room : Room (k + 1) X.A) (hg : Gl X x) (hm : X.mg x = some (.ref C)) (hb : Binds X.K fd ps []) (pass : ∀ σ, PassesAt CX X σ (E σ))
    (ha : PA X (e :: es) t) (hdb : (x == ("__debug__" : Str)) = false := by decide) (he : starEach (e :: es) X.env = (false, eval e X.env) :: starEach es X.env := by rfl) (hpl : (backTo pos (starEach es X.env)).any (·.1) = false := by rfl) :
    PE X (.Call (.Name x p) (e :: es) [] pos) (tMakeS C sp E t) := by
  refine ⟨fun pins s σ H Q inv h => ?_⟩
  refine wpAny_Call_Name_kw (ld_glob inv hg hm ?_ hdb)
  refine PySem.W.callWith_K (h₀ := X.base) inv.ok.mod.kin M.kp (thn (ha.run pos pins s σ H _ inv h) fun us s1 ⟨vs, H1, inv1, rvs, q⟩ => ⟨inv1.kIn, ?_⟩) he hpl
  have promised := q (s1.heap.objs.size + 1) s1.heap.objs.size (inv1.hok.fresh (Nat.le_succ _)) (inv1.hok.fresh (Nat.le_refl _)) (Nat.ne_of_lt (Nat.lt_succ_self _))
  have inv2 := Inv.made (C := C) inv1
  have args : Vals (V.ref (s1.heap.objs.size + 1) :: vs) (Value.ref (s1.heap.objs.size + 1) :: us) := .cons rfl rvs
  have count : (Value.ref (s1.heap.objs.size + 1) :: us).length = ps.length := by rw [← args.length]; exact F.len _ _ _ _ promised
  have binds := hb _ (Value.ref (s1.heap.objs.size + 1) :: us) inv2.kIn (by rw [List.append_nil]; exact count)
  rw [List.append_nil] at binds
  refine wpAny_call (make_map (f := f) inv1.kIn M.makes M.init (beq_iff_eq.mp M.fn) (codeAny_mono (F.run _ X.stack _ _ ⟨Value.ref (s1.heap.objs.size + 1) :: us, []⟩ (Value.ref (s1.heap.objs.size + 1) :: us) _ _ (E σ) (room.make C us [])
    (inv2.env0.make C us []) binds args promised) fun z s' hz => ?_))
  match z, hz with
  | .error u, hz => exact pass σ pins _ _ u s' inv2 hz
  | .ok .next, hz => exact False.elim hz
  | .ok .brk, hz => exact False.elim hz
  | .ok .cont, hz => exact False.elim hz
  | .ok (.ret u), hz =>
    obtain ⟨v, H', inv3, rv, ev, q3⟩ := inv2.after hz
    subst ev
    exact ⟨rv, ⟨V.ref (s1.heap.objs.size + 1), H', inv3, rfl, q3⟩⟩
def wzNew (C : Addr) (ns : List Str) (g : DIn) (A : WA) : WZ := fun ds P Z => A ds fun es => g es (fun dv => P (.ins C ns dv)) Z
theorem new_red {σ : L2.St} {H : Hp} {Q : VK} (h : tZW W (wzNew C ns g A) σ H Q) : tMakeS C (spIni C ns g) (L2.WE W) (tAW A) σ H Q := by
  obtain ⟨O, ds, P, Z, hS, hO, hA, hP, hZ⟩ := h
  refine ⟨O, ds, _, hS, hO, hA, fun es hg vs H1 e1 q1 a dx na ndx hne => ?_⟩
  have O1 := hO.mono e1
  have op : Out O a := O1.out na
  have e2 : Ext O H1 (upd (upd H1 dx (.own a)) a (.ins C dx [])) := .same fun b o hb => by
    rw [upd_ne (ne_of_none hb na), upd_ne (ne_of_none hb ndx)]
    exact hb
  have kk : ∀ b o, Out (O ++ [(a, Own.hold (mkI C dx ns []))]) b → H1 b = some o → NT o → upd (upd H1 dx (.own a)) a (.ins C dx []) b = some o := fun b o x hh t => e2.keep b o x.hold_out hh t
  exact ⟨O, a, dx, vs, es, _, Z, rfl, op, upd_same, (q1.more (fresh_none na)).keep kk, O1.mono e2, hg, fun dv hdv us H' e hH hal => ⟨rfl, hP _ hdv _ H' (e1.trans (e.drop e2 (fresh_none na))) (.ins op hH hal)⟩,
    fun C' d z dx v H' e ox hx q => hZ C' d z dx v H' (e1.trans (e.drop e2 (fresh_none na))) ox hx q⟩
theorem we_znew (M : Mk X.K C f) (F : FnOk X.prog X.w X.K X.mg X.base (L2.CX X.prog X.w) k f fd ps (spIni C ns g)) (hr : Room (k + 1) X.A) (tk : Takes X W) (hg : Gl X x) (hm : X.mg x = some (.ref C)) (hb : Binds X.K fd ps [])
    (ha : PA X (e :: es) (tAW A)) (hdb : (x == ("__debug__" : Str)) = false := by decide) (he : starEach (e :: es) X.env = (false, eval e X.env) :: starEach es X.env := by rfl) (hpl : (backTo pos (starEach es X.env)).any (·.1) = false := by rfl) :
    PE X (.Call (.Name x p) (e :: es) [] pos) (tZW W (wzNew C ns g A)) :=
  PE.weak (pe_makeS M F hr hg hm hb (fun σ => passAt tk σ) ha hdb he hpl) fun σ H Q h => new_red h
def wNew (C : Addr) (ns : List Str) (g : DIn) (A : WA) : WE := fun ds P => A ds fun es => g es (fun dv => P (.ins C ns dv)) fun _ _ => False
theorem we_new (M : Mk X.K C f) (F : FnOk X.prog X.w X.K X.mg X.base (L2.CX X.prog X.w) k f fd ps (spIni C ns g)) (hr : Room (k + 1) X.A) (hg : Gl X x) (hm : X.mg x = some (.ref C)) (hb : Binds X.K fd ps [])
    (ha : PA X (e :: es) (tAW A)) (hdb : (x == ("__debug__" : Str)) = false := by decide) (he : starEach (e :: es) X.env = (false, eval e X.env) :: starEach es X.env := by rfl) (hpl : (backTo pos (starEach es X.env)).any (·.1) = false := by rfl) :
    PE X (.Call (.Name x p) (e :: es) [] pos) (tW (wNew C ns g A)) :=
  PE.weak (pe_makeS M F hr hg hm hb (fun σ => passAt (W := fun _ _ _ _ => False) takes0 σ) ha hdb he hpl) fun σ H Q ⟨O, ds, P, hS, hO, hA, k⟩ => new_red (W := fun _ _ _ _ => False) ⟨O, ds, P, fun _ _ => False, hS, hO, hA, k, fun _ _ z => z.elim⟩
end
end DL

set_option maxHeartbeats 4000000
namespace DL
open PySem PySem.Spec PyProof.Rows L2
variable [TabCtx]
/-! ### is None, not in -/
def isNonD : D → Bool
  | .non => true
  | _ => false
def dIsN : DOp := fun x y P => y = .non ∧ P (.bl (isNonD x))
def dNotN : DOp := fun x y P => y = .non ∧ P (.bl (!isNonD x))
theorem non_dq {O : Ow} {H : Hp} {v : V} {d : D} (q : Dq O H v d) : decide (v = .non) = isNonD d := by
  cases q <;> first | rfl | (exact decide_eq_false fun z => by cases z)
section
variable {X : Cx}
theorem op_dIsN : OpR X (compareOp .Is) (rD dIsN) := by
  intro pins s σ H x y v u Q I rx ry ⟨O, dx, dy, P, qx, qy, hO, ⟨e, hg⟩, k⟩
  subst e
  cases qy
  exact op_isN pins s σ H _ _ v u Q I rx ry ⟨rfl, k _ hg _ H (.refl _ _) (by rw [non_dq qx]; exact .bl _)⟩
theorem op_dNotN : OpR X (compareOp .IsNot) (rD dNotN) := by
  intro pins s σ H x y v u Q I rx ry ⟨O, dx, dy, P, qx, qy, hO, ⟨e, hg⟩, k⟩
  subst e
  cases qy
  exact op_notN pins s σ H _ _ v u Q I rx ry ⟨rfl, k _ hg _ H (.refl _ _) (by rw [non_dq qx]; exact .bl _)⟩
theorem op_dNotIn : OpR X (compareOp .NotIn) (rD dNotIn) := by
  intro pins s σ H x y v u Q I rx ry ⟨O, dx, dy, P, qx, qy, hO, hg, k⟩
  unfold dNotIn at hg
  split at hg
  · obtain ⟨xs, h1, hg⟩ := hg
    cases qx
    cases qy with
    | tup x2 r2 a2 =>
      have e := strsOf_vs h1 a2
      subst e
      exact op_notIn_seq pins s σ H _ _ v u Q I rx ry ⟨_, _, rfl, .inr (.inl r2), rfl, flat_strs _, k _ hg _ H (.refl _ _) (by rw [if_pos rfl, inV_str]; exact .bl _)⟩
  · obtain ⟨xs, h1, hg⟩ := hg
    cases qx
    cases qy with
    | lst x2 r2 a2 =>
      have e := strsOf_vs h1 a2
      subst e
      exact op_notIn_seq pins s σ H _ _ v u Q I rx ry ⟨_, _, rfl, .inl (.of r2), rfl, flat_strs _, k _ hg _ H (.refl _ _) (by rw [if_pos rfl, inV_str]; exact .bl _)⟩
  · exact hg.elim
end
/-! ### [e for x in .. if c] -/
def wEachI (t : D → (Bool → Prop) → Prop) (f : D → (D → Prop) → Prop) : List D → (List D → Prop) → Prop
  | [], P => P []
  | x :: xs, P => t x fun b => if b = true then f x fun y => wEachI t f xs fun ys => P (y :: ys) else wEachI t f xs P
def wLcI (i : Nat) (Wi : WI) (T : WT) (We : WE) : WE := fun ds P => Wi ds fun xs => xs.length < sizeLine ∧ wEachI (fun x P' => T (ds.set i (some x)) P') (fun x P' => We (ds.set i (some x)) P') xs fun ys => P (.lst ys)
theorem lci_red {i : Nat} {Wi : WI} {T : WT} {We : WE} {σ : L2.St} {H : Hp} {Q : VK} (h : tW (wLcI i Wi T We) σ H Q) : tLc (tIW Wi) (gName i) (tTW T) (tW We) [i] σ H Q := by
  obtain ⟨O, ds, P, hS, hO, hW, k⟩ := h
  refine ⟨O, ds, _, hS, hO, hW, fun xs ⟨hl, hx⟩ J H1 e1 ⟨G, w, hG⟩ D nD => ?_⟩
  have S1 := hS.mono e1
  have O1 := hO.mono e1
  have oD : Out O D := O1.out nD
  have kN : ∀ b o, Out (O ++ [(D, Own.hold (HO.lst []))]) b → H1 b = some o → NT o → upd H1 D (.lst []) b = some o := fun b o x hh _ => by
    rw [upd_ne x.hold_ne]
    exact hh
  refine lc_it w (fun j H2 => ∃ acc dacc, acc.length ≤ j ∧ Hd O D acc H2 (σ.set i none) (ds.set i none) dacc ∧ (∀ b o, Out O b → H1 b = some o → NT o → H2 b = some o) ∧
    wEachI (fun x P' => T (ds.set i (some x)) P') (fun x P' => We (ds.set i (some x)) P') (xs.drop j) fun ys => P (.lst (dacc ++ ys))) ?h0 ?hG ?hs ?hd
  case h0 => exact ⟨[], [], Nat.le_refl _, ⟨((S1.more (fresh_none nD)).keep kN).unset i, .nil, OwnAll.hold (O1.mono (.new nD)) oD upd_same⟩, (Ext.new nD).keep, by simpa using hx⟩
  case hG =>
    rintro j H2 _ ⟨_, _, _, _, kp, _⟩
    exact hG H2 kp
  case hs =>
    rintro j x H2 H' hj ⟨acc, dacc, ha, hd, kp, hw⟩ ⟨rfl, d, hdx, qd⟩
    have ed : xs.drop j = d :: xs.drop (j + 1) := by
      obtain ⟨h1, h2⟩ := List.getElem?_eq_some_iff.mp hdx
      rw [List.drop_eq_getElem_cons h1, h2]
    rw [ed] at hw
    refine ⟨?_, ?_⟩
    · show (((σ.set i none).set i (some x)).set i none) = σ.set i none
      rw [List.set_set, List.set_set]
    · have kp' : ∀ b o, Out (O ++ [(D, .hold (.lst acc))]) b → H1 b = some o → NT o → H' b = some o := fun b o hb h t => kp b o hb.hold_out h t
      have qd' : Dq (O ++ [(D, .hold (.lst acc))]) H' x d := (qd.more (fresh_none nD)).keep kp'
      have es : (ds.set i none).set i (some d) = ds.set i (some d) := List.set_set ..
      have S2 : SlD (O ++ [(D, .hold (.lst acc))]) H' ((σ.set i none).set i (some x)) (ds.set i (some d)) := es ▸ hd.sl.set i qd'
      refine ⟨_, _, _, S2, hd.ow, hw, fun b hb H3 e3 => ?_⟩
      have hd3 := hd.mono e3
      have kp3 : ∀ b o, Out O b → H1 b = some o → NT o → H3 b = some o := fun b o hb h t => e3.keep b o (fun q hq => by
        rcases List.mem_append.mp hq with z | z
        · exact hb q z
        · rw [List.mem_singleton.mp z]; exact ne_of_none h nD) (kp b o hb h t) t
      cases b with
      | false =>
        rw [if_neg Bool.false_ne_true] at hb
        exact ⟨acc, dacc, by omega, hd3, kp3, hb⟩
      | true =>
        rw [if_pos rfl] at hb
        show tW We _ _ _
        refine ⟨_, _, _, S2.mono e3, hd3.ow, hb, fun dy hy v H4 e4 q4 => ?_⟩
        have hd4 := hd3.mono e4
        refine ⟨acc, hd4.at, by omega, acc ++ [v], dacc ++ [dy], by simp; omega, hd4.app oD (.cons q4 .nil), fun b o hb h t => ?_, by simpa using hy⟩
        have bD : b ≠ D := ne_of_none h nD
        rw [upd_ne bD]
        exact e4.keep b o (fun q hq => by
          rcases List.mem_append.mp hq with z | z
          · exact hb q z
          · rw [List.mem_singleton.mp z]; exact bD) (kp3 b o hb h t) t
  case hd =>
    rintro H2 ⟨acc, dacc, ha, hd, kp, hw⟩
    rw [List.drop_length] at hw
    have hw' : P (.lst (dacc ++ [])) := hw
    rw [List.append_nil] at hw'
    exact k _ hw' _ H2 (e1.trans ⟨kp, fun p hp _ => hd.ow.less.here p hp⟩) (.lst oD hd.at hd.al.less)
theorem we_lci {X : Cx} {i : Nat} {x : Str} {elt tg iter c : Expr} {scope : Scope} {Wi : WI} {T : WT} {We : WE} {pos : Pos} (hc : X.calm = true) (hN : X.N.Nodup) (hi : PI X tg iter (tIW Wi)) (ok : BlkOk X.N X.env.scope scope [(x, i)])
    (hg : ∀ (s : Shared) (H : Hp) (C : Addr) (cl : List (Str × Addr)) (fp : List Addr), PG (X.blk s H scope (compEnvC scope cl C X.env) fp) tg (gName i))
    (ht : ∀ (s : Shared) (H : Hp) (C : Addr) (cl : List (Str × Addr)) (fp : List Addr), PT (X.blk s H scope (compEnvC scope cl C X.env) fp) c (tTW T))
    (he : ∀ (s : Shared) (H : Hp) (C : Addr) (cl : List (Str × Addr)) (fp : List Addr), PE (X.blk s H scope (compEnvC scope cl C X.env) fp) elt (tW We)) (hs : ∀ x, foldedSetIterable iter X.env x = pure x := by intro _; rfl) :
    PE X (.ListComp elt [⟨tg, iter, [c], 0⟩] scope pos) (tW (wLcI i Wi T We)) :=
  PE.weak (pe_lc (own := [(x, i)]) hc hN hi ok hg (fun s H C cl fp => pts_one (ht s H C cl fp)) he hs) fun σ H Q h => lci_red h
/-! ### a method without arguments -/
theorem we_meth0 {X : Cx} {k : Nat} {C f : Addr} {fd : FuncData} {ps : List Str} {m : Str} {apos pos : Pos} {o : Expr} {Wo : WE} {g : DSp} {pl : Sem Bool} (ho : PE X o (tW Wo)) (c : Cls X.K C) (hm : Meth X.K C m f) (F : FnOk X.prog X.w X.K X.mg X.base (L2.CX X.prog X.w) k f fd ps (spD g)) (hr : Room k X.A) (hb : Binds X.K fd ps [])
    (ht : eval (.Call (.Attribute o m apos) [] [] pos) X.env = (do
      let it ← eval o X.env; standAt apos.atName; let (fn, first) ← holding [it] (getMethod it m pl)
      callWith pos fn first (backTo pos (starEach [] X.env)) (backToKw pos (keywordEach [] X.env))) := by rfl) :
    PE X (.Call (.Attribute o m apos) [] [] pos) (tW (wMeth C m (quiet g) Wo waNil)) :=
  PE.weak (pe_meth0 ho c hm F hr hb .nil passL ht) fun σ H Q ⟨O, ds, P, hS, hO, hW, k⟩ => ⟨O, ds, _, hS, hO, hW, fun x hx v H1 e1 q1 => by
    obtain ⟨ns, es0, rfl, hm, hA⟩ := hx
    cases q1 with
    | ins o1 r1 a1 => exact ⟨_, _, _, rfl, r1, fld_none hm, O, _, P, fun _ _ => False, .cons (.ins o1 r1 a1) .nil, hO.mono e1, hA, fun d hd v H3 e3 q3 => k d hd v H3 (e1.trans e3) q3, fun _ _ z => z.elim⟩⟩
end DL

set_option maxHeartbeats 4000000
namespace DL
open PySem PySem.Spec PyProof.Rows L2
variable [TabCtx]
/-! ### {k: v for a, b, c in ..} -/
theorem wipe_get {σ : L2.St} : ∀ (vs : List Nat) (j : Nat), (wipe σ vs)[j]? = if j ∈ vs ∧ j < σ.length then some none else σ[j]?
  | [], j => by simp [wipe]
  | v :: vs, j => by
    unfold wipe
    rw [List.getElem?_set, wipe_length, wipe_get vs j]
    by_cases e : v = j
    · subst e
      by_cases l : v < σ.length
      · simp [l]
      · simp [l]
    · have e' : ¬ j = v := fun z => e z.symm
      simp [e, e']
theorem wipe_set {σ : L2.St} {vs : List Nat} {i : Nat} {x : Option V} (hi : i ∈ vs) : wipe (σ.set i x) vs = wipe σ vs := by
  apply List.ext_getElem?
  intro j
  rw [wipe_get, wipe_get, List.length_set]
  by_cases e : i = j
  · subst e
    by_cases l : i < σ.length
    · simp [hi, l]
    · rw [List.getElem?_set]
      simp [l]
  · rw [List.getElem?_set_ne e]
theorem wipe_wipe {σ : L2.St} {vs : List Nat} : wipe (wipe σ vs) vs = wipe σ vs := by
  apply List.ext_getElem?
  intro j
  rw [wipe_get, wipe_get, wipe_length]
  split <;> rfl
def wipeD : Sl → List Nat → Sl
  | ds, [] => ds
  | ds, v :: vs => (wipeD ds vs).set v none
theorem SlD.wipe {O : Ow} {H : Hp} {σ : L2.St} {ds : Sl} (h : SlD O H σ ds) : ∀ vs : List Nat, SlD O H (L2.wipe σ vs) (wipeD ds vs)
  | [] => h
  | v :: vs => (SlD.wipe h vs).unset v
/-- the slots within: a, b, c of the item -/
def at3 (i1 i2 i3 : Nat) (ds : Sl) (a b c : D) : Sl := (((wipeD ds [i1, i2, i3]).set i1 (some a)).set i2 (some b)).set i3 (some c)
def wDc3 (i1 i2 i3 : Nat) (Wi : WI) (Wk Wv : WE) : WE := fun ds P => Wi ds fun xs => wEachD (fun x P' => ∃ a b c, x = .tup [a, b, c] ∧ Wk (at3 i1 i2 i3 ds a b c) P') (fun x P' => ∃ a b c, x = .tup [a, b, c] ∧ Wv (at3 i1 i2 i3 ds a b c) P') xs [] [] fun ks es => P (.dct ks es)
theorem dc_red3 {i1 i2 i3 : Nat} {Wi : WI} {Wk Wv : WE} {K : PySem.W.Frag} {σ : L2.St} {H : Hp} {Q : VK} (h : tW (wDc3 i1 i2 i3 Wi Wk Wv) σ H Q) : tDc (tIW Wi) (gTup K 3 (gCons (gName i1) (gCons (gName i2) (gCons (gName i3) gNil)))) tYes (tW Wk) (tW Wv) [i1, i2, i3] σ H Q := by
  obtain ⟨O, ds, P, hS, hO, hW, k⟩ := h
  refine ⟨O, ds, _, hS, hO, hW, fun xs hx J H1 e1 ⟨G, w, hG⟩ D nD => ?_⟩
  have S1 := hS.mono e1
  have O1 := hO.mono e1
  have oD : Out O D := O1.out nD
  refine dc_itW w (fun j H2 => ∃ ks vs es, H2 D = some (.dK (ks.zip vs)) ∧ DqAll (O ++ [(D, .hold (.dK (ks.zip vs)))]) H2 vs es ∧ OwnAll O H2 ∧ (∀ b o, Out O b → H1 b = some o → NT o → H2 b = some o) ∧
    wEachD (fun x P' => ∃ a b c, x = .tup [a, b, c] ∧ Wk (at3 i1 i2 i3 ds a b c) P') (fun x P' => ∃ a b c, x = .tup [a, b, c] ∧ Wv (at3 i1 i2 i3 ds a b c) P') (xs.drop j) ks es fun ks es => P (.dct ks es)) ?h0 ?hG ?hs ?hd
  case h0 => exact ⟨[], [], [], upd_same, .nil, O1.mono (.new nD), (Ext.new nD).keep, by simpa using hx⟩
  case hG =>
    rintro j H2 _ ⟨_, _, _, _, _, _, kp, _⟩
    exact hG H2 kp
  case hs =>
    rintro j x H2 H' hj ⟨ks, vs, es, hD, hq, hO2, kp, hw⟩ ⟨rfl, d, hd, qd⟩
    have ed : xs.drop j = d :: xs.drop (j + 1) := by
      obtain ⟨h1, h2⟩ := List.getElem?_eq_some_iff.mp hd
      rw [List.drop_eq_getElem_cons h1, h2]
    rw [ed] at hw
    obtain ⟨a, b, c, rfl, hw⟩ := hw
    have kp' : ∀ b o, Out (O ++ [(D, .hold (.dK (ks.zip vs)))]) b → H1 b = some o → NT o → H' b = some o := fun b o hb h t => kp b o hb.hold_out h t
    have qd' : Dq (O ++ [(D, .hold (.dK (ks.zip vs)))]) H' x (.tup [a, b, c]) := (qd.more (fresh_none nD)).keep kp'
    cases qd' with
    | tup ot rt at_ =>
      cases at_ with
      | cons qa at2 =>
        cases at2 with
        | cons qb at3_ =>
          cases at3_ with
          | cons qc at4 =>
            cases at4
            refine ⟨_, _, rfl, .inl rt, rfl, _, _, rfl, _, _, rfl, _, _, rfl, rfl, ?_, ?_⟩
            · rw [wipe_set (by simp), wipe_set (by simp), wipe_set (by simp), wipe_wipe]
            · show tW Wk _ _ _
              have S2 := ((((((S1.more (fresh_none nD)).keep kp').wipe [i1, i2, i3]).set i1 qa).set i2 qb).set i3 qc)
              have O2 : OwnAll (O ++ [(D, .hold (.dK (ks.zip vs)))]) H' := hO2.hold oD hD
              refine ⟨_, _, _, S2, O2, hw, fun y hy vy H4 e4 q4 => ?_⟩
              obtain ⟨a', b', c', ee, hy⟩ := hy
              cases ee
              refine ⟨_, _, _, S2.mono e4, O2.mono e4, hy, fun z hz vz H5 e5 q5 => ?_⟩
              obtain ⟨q, hk, hl, hlen, nd, hrest⟩ := hz
              have e45 := e4.trans e5
              have hD5 := e45.hold_at hD
              have a5 := hq.mono e45
              have ek := keyD_kV hk q4
              subst ek
              obtain ⟨ws, p1, p2⟩ := putD_rel (q := q) nd hlen a5 q5
              have lz : (ks.zip vs).length < sizeLine := by
                rw [List.length_zip, a5.length, hlen, Nat.min_self]
                exact hl
              refine ⟨_, q, rfl, hD5, lz, _, ws, _, by rw [upd_same, p1], ?_, ⟨fun r hr => ?_, hO2.uq, hO2.tabs⟩, fun b o hb h t => ?_, hrest⟩
              · refine (p2.keep fun b o hb h _ => ?_).rehold
                rw [upd_ne hb.hold_ne]
                exact h
              · obtain ⟨u, h1, h2⟩ := e45.own r (List.mem_append_left _ hr) (hO2.here r hr)
                exact ⟨u, by rw [upd_ne (fun e => oD r hr e.symm)]; exact h1, h2.upd (noCode_of hD5)⟩
              · have bD : b ≠ D := ne_of_none h nD
                rw [upd_ne bD]
                exact e45.keep b o (fun r hr => by
                  rcases List.mem_append.mp hr with z | z
                  · exact hb r z
                  · rw [List.mem_singleton.mp z]; exact bD) (kp b o hb h t) t
  case hd =>
    rintro H2 ⟨ks, vs, es, hD, hq, hO2, kp, hw⟩
    rw [List.drop_length] at hw
    exact k _ hw _ H2 (e1.trans ⟨kp, fun p hp _ => hO2.here p hp⟩) (.dct oD hD hq.less)
theorem we_dc3 {X : Cx} {i1 i2 i3 kk : Nat} {x1 x2 x3 : Str} {p1 p2 p3 tpos : Pos} {kx vx iter : Expr} {scope : Scope} {Wi : WI} {Wk Wv : WE} {pos : Pos} (hc : X.calm = true) (hN : X.N.Nodup) (hi : PI X (.Tuple [.Name x1 p1, .Name x2 p2, .Name x3 p3] kk tpos) iter (tIW Wi)) (ok : BlkOk X.N X.env.scope scope [(x1, i1), (x2, i2), (x3, i3)])
    (hg : ∀ (s : Shared) (H : Hp) (C : Addr) (cl : List (Str × Addr)) (fp : List Addr), PG (X.blk s H scope (compEnvC scope cl C X.env) fp) (.Tuple [.Name x1 p1, .Name x2 p2, .Name x3 p3] kk tpos) (gTup X.K 3 (gCons (gName i1) (gCons (gName i2) (gCons (gName i3) gNil)))))
    (hk : ∀ (s : Shared) (H : Hp) (C : Addr) (cl : List (Str × Addr)) (fp : List Addr), PE (X.blk s H scope (compEnvC scope cl C X.env) fp) kx (tW Wk))
    (hv : ∀ (s : Shared) (H : Hp) (C : Addr) (cl : List (Str × Addr)) (fp : List Addr), PE (X.blk s H scope (compEnvC scope cl C X.env) fp) vx (tW Wv)) (hs : ∀ x, foldedSetIterable iter X.env x = pure x := by intro _; rfl) :
    PE X (.DictComp kx vx [⟨.Tuple [.Name x1 p1, .Name x2 p2, .Name x3 p3] kk tpos, iter, [], 0⟩] scope pos) (tW (wDc3 i1 i2 i3 Wi Wk Wv)) :=
  PE.weak (pe_dc (own := [(x1, i1), (x2, i2), (x3, i3)]) hc hN hi ok hg (fun _ _ _ _ _ => pts_nil) hk hv hs) fun σ H Q h => dc_red3 h
/-! ### name = {..} on one line, the name a local: the display stores by itself -/
theorem sw_dict {kx vx : Expr} {gs : List Comprehension} {scope : Scope} {pos py : Pos} {y : Str} {l : Nat} {env : Env} (fn : env.scope.kind = .function) (loc : env.scope.names.lookup y = some .local) (line : (py.line == pos.line) = true)
    (apart : (scope.names.any fun (n, k) => n == y && (k == .local || k == .cell)) = false) : swapsWith (.DictComp kx vx gs scope pos) (some (.Name y py)) l env = pure true := by
  have k1 : env.kindOf y = some .local := loc
  have k2 : env.blockKind = .function := by
    unfold Env.blockKind
    rw [fn]
    rfl
  unfold swapsWith
  simp only [k2, k1, apart, Expr.pos, line]
  rfl
theorem ps_setDc {X : Cx} {i : Nat} {y : Str} {py : Pos} {kx vx tg iter : Expr} {scope : Scope} {own : List (Str × Nat)} {pos spos : Pos} {wi : TI} {g : TG} {tk tv : TE} (calm : X.calm = true) (hN : X.N.Nodup) (hy : X.N[i]? = some y) (loc : X.env.scope.names.lookup y = some .local)
    (used : swapsWith (.DictComp kx vx [⟨tg, iter, [], 0⟩] scope pos) (some (.Name y py)) spos.line X.env = pure true) (hi : PI X tg iter wi) (ok : BlkOk X.N X.env.scope scope own)
    (hg : ∀ (s : Shared) (H : Hp) (C : Addr) (cl : List (Str × Addr)) (fp : List Addr), PG (X.blk s H scope (compEnvC scope cl C X.env) fp) tg g)
    (hk : ∀ (s : Shared) (H : Hp) (C : Addr) (cl : List (Str × Addr)) (fp : List Addr), PE (X.blk s H scope (compEnvC scope cl C X.env) fp) kx tk)
    (hv : ∀ (s : Shared) (H : Hp) (C : Addr) (cl : List (Str × Addr)) (fp : List Addr), PE (X.blk s H scope (compEnvC scope cl C X.env) fp) vx tv) (hs : ∀ x, foldedSetIterable iter X.env x = pure x := by intro _; rfl) :
    PS X (.Assign [.Name y py] (.DictComp kx vx [⟨tg, iter, [], 0⟩] scope pos) spos) (tAsg (tDc wi g tYes tk tv (own.map (·.2))) (gName i)) := by
  refine ⟨fun pins s σ H D inv h => ?_⟩
  rw [exec_Assign_Name_used _ _ _ _ used]
  refine wpAny_bind (wpAny_standAt (wpAny_bind ?_))
  show wpAny _ X.A (do let _ ← comprehension (.DictComp kx vx [⟨tg, iter, [], 0⟩] scope pos) scope X.env (firstIterPos [⟨tg, iter, [], 0⟩] pos) newDict false (eval iter X.env) (some (assign (.Name y py) X.env))) _ _ s
  have h' : tDc wi g tYes tk tv (own.map (·.2)) σ H (fun x H1 => gName i x σ H1 D.nx) := h
  refine wpAny_bind (thn (dc_core (Qf := fun _ s' => SP X pins D .next s') calm hN inv hi ok hg (fun _ _ _ _ _ => pts_nil) hk hv hs h' fun L C s' m H' inv' q nsC fp => ?_) fun _ s' hq => wpAny_pure (wpAny_pure hq))
  show wpAny _ _ (assign (.Name y py) X.env (.ref L)) _ _ _
  refine wpAny_assign_Name (store_ok2 (v := V.ref L) inv' hN hy (.inl loc) rfl (fun s2 inv2 ⟨a, same, where_⟩ => ?_) (.inr loc))
  obtain ⟨f0, f1, f2, f3, f4, f5⟩ := fp
  have apart : C ≠ a := by
    rcases where_ with z | z
    · rw [z]
      exact f1
    · exact fun e => f4 y a z e.symm
  exact ⟨m, nsC.sameBut same apart, fun h3 same3 => ⟨_, H', inv2.turned (t' := s2.toks) (fun b o hb e => (same3.2 b hb).trans e) f0 f1 f3 f4 f5, q⟩⟩
theorem ws_setDc3 {X : Cx} {i i1 i2 i3 kk : Nat} {y x1 x2 x3 : Str} {py p1 p2 p3 tpos : Pos} {kx vx iter : Expr} {scope : Scope} {Wi : WI} {Wk Wv : WE} {pos spos : Pos} {E : XK} (calm : X.calm = true) (hN : X.N.Nodup) (hy : X.N[i]? = some y) (loc : X.env.scope.names.lookup y = some .local)
    (hi : PI X (.Tuple [.Name x1 p1, .Name x2 p2, .Name x3 p3] kk tpos) iter (tIW Wi)) (ok : BlkOk X.N X.env.scope scope [(x1, i1), (x2, i2), (x3, i3)])
    (hg : ∀ (s : Shared) (H : Hp) (C : Addr) (cl : List (Str × Addr)) (fp : List Addr), PG (X.blk s H scope (compEnvC scope cl C X.env) fp) (.Tuple [.Name x1 p1, .Name x2 p2, .Name x3 p3] kk tpos) (gTup X.K 3 (gCons (gName i1) (gCons (gName i2) (gCons (gName i3) gNil)))))
    (hk : ∀ (s : Shared) (H : Hp) (C : Addr) (cl : List (Str × Addr)) (fp : List Addr), PE (X.blk s H scope (compEnvC scope cl C X.env) fp) kx (tW Wk))
    (hv : ∀ (s : Shared) (H : Hp) (C : Addr) (cl : List (Str × Addr)) (fp : List Addr), PE (X.blk s H scope (compEnvC scope cl C X.env) fp) vx (tW Wv)) (hs : ∀ x, foldedSetIterable iter X.env x = pure x := by intro _; rfl)
    (fn : X.env.scope.kind = .function := by rfl) (line : (py.line == pos.line) = true := by rfl) (apart : (scope.names.any fun (n, k) => n == y && (k == .local || k == .cell)) = false := by decide) :
    PS X (.Assign [.Name y py] (.DictComp kx vx [⟨.Tuple [.Name x1 p1, .Name x2 p2, .Name x3 p3] kk tpos, iter, [], 0⟩] scope pos) spos) (tSW E (gSet i (wDc3 i1 i2 i3 Wi Wk Wv))) :=
  PS.weak (ps_setDc (own := [(x1, i1), (x2, i2), (x3, i3)]) calm hN hy loc (sw_dict fn loc line apart) hi ok hg hk hv hs) fun D σ H ⟨O, ds, N, R, Z, hS, hO, hG, hNx, hR, hZ⟩ =>
    dc_red3 ⟨O, ds, _, hS, hO, hG, fun d hd v H1 e1 q1 => hNx _ hd _ H1 e1 ((hS.mono e1).set i q1)⟩
end DL

set_option maxHeartbeats 4000000
namespace DL
open PySem PySem.Spec PyProof.Rows L2
variable [TabCtx]
/-! ### a, b = e and a, b, c = e, e a tuple -/
def gUn2 (i1 i2 : Nat) (W : WE) : WS := fun ds N _ _ => W ds fun d => ∃ a b, d = .tup [a, b] ∧ N ((ds.set i1 (some a)).set i2 (some b))
def gUn3 (i1 i2 i3 : Nat) (W : WE) : WS := fun ds N _ _ => W ds fun d => ∃ a b c, d = .tup [a, b, c] ∧ N (((ds.set i1 (some a)).set i2 (some b)).set i3 (some c))
section
variable {X : Cx} {i1 i2 i3 kk : Nat} {x1 x2 x3 : Str} {p1 p2 p3 tpos pos : Pos} {e : Expr} {W : WE} {E : XK}
theorem ws_un2 (hc : X.calm = true) (h1 : PG X (.Name x1 p1) (gName i1)) (h2 : PG X (.Name x2 p2) (gName i2)) (he : PE X e (tW W)) (hs : swapsWithSole [.Tuple [.Name x1 p1, .Name x2 p2] kk tpos] e pos.line X.env = pure false := by rfl)
    (hw : swappedStores [.Tuple [.Name x1 p1, .Name x2 p2] kk tpos] e X.env = pure none := by rfl) : PS X (.Assign [.Tuple [.Name x1 p1, .Name x2 p2] kk tpos] e pos) (tSW E (gUn2 i1 i2 W)) :=
  PS.weak (ps_asg he (pg_tup (n := 2) hc (pgs_cons h1 (pgs_cons h2 pgs_nil))) hs hw) fun D σ H ⟨O, ds, N, R, Z, hS, hO, hG, hN, hR, hZ⟩ => ⟨O, ds, _, hS, hO, hG, fun d hd v H1 e1 q1 => by
    obtain ⟨a, b, rfl, hn⟩ := hd
    cases q1 with
    | tup o r al =>
      cases al with
      | cons qa al =>
        cases al with
        | cons qb al =>
          cases al
          exact ⟨_, _, rfl, .inl r, rfl, _, _, rfl, _, _, rfl, rfl, hN _ hn _ _ e1 (((hS.mono e1).set i1 qa).set i2 qb)⟩⟩
theorem ws_un3 (hc : X.calm = true) (h1 : PG X (.Name x1 p1) (gName i1)) (h2 : PG X (.Name x2 p2) (gName i2)) (h3 : PG X (.Name x3 p3) (gName i3)) (he : PE X e (tW W)) (hs : swapsWithSole [.Tuple [.Name x1 p1, .Name x2 p2, .Name x3 p3] kk tpos] e pos.line X.env = pure false := by rfl)
    (hw : swappedStores [.Tuple [.Name x1 p1, .Name x2 p2, .Name x3 p3] kk tpos] e X.env = pure none := by rfl) : PS X (.Assign [.Tuple [.Name x1 p1, .Name x2 p2, .Name x3 p3] kk tpos] e pos) (tSW E (gUn3 i1 i2 i3 W)) :=
  PS.weak (ps_asg he (pg_tup (n := 3) hc (pgs_cons h1 (pgs_cons h2 (pgs_cons h3 pgs_nil)))) hs hw) fun D σ H ⟨O, ds, N, R, Z, hS, hO, hG, hN, hR, hZ⟩ => ⟨O, ds, _, hS, hO, hG, fun d hd v H1 e1 q1 => by
    obtain ⟨a, b, c, rfl, hn⟩ := hd
    cases q1 with
    | tup o r al =>
      cases al with
      | cons qa al =>
        cases al with
        | cons qb al =>
          cases al with
          | cons qc al =>
            cases al
            exact ⟨_, _, rfl, .inl r, rfl, _, _, rfl, _, _, rfl, _, _, rfl, rfl, hN _ hn _ _ e1 ((((hS.mono e1).set i1 qa).set i2 qb).set i3 qc)⟩⟩
end
/-! ### name = {..} and name = [..] with one name within, stored by the display itself -/
theorem ws_setDc {X : Cx} {i i1 : Nat} {y x1 : Str} {py : Pos} {kx vx tg iter : Expr} {scope : Scope} {Wi : WI} {Wk Wv : WE} {pos spos : Pos} {E : XK} (calm : X.calm = true) (hN : X.N.Nodup) (hy : X.N[i]? = some y) (loc : X.env.scope.names.lookup y = some .local) (hi : PI X tg iter (tIW Wi)) (ok : BlkOk X.N X.env.scope scope [(x1, i1)])
    (hg : ∀ (s : Shared) (H : Hp) (C : Addr) (cl : List (Str × Addr)) (fp : List Addr), PG (X.blk s H scope (compEnvC scope cl C X.env) fp) tg (gName i1))
    (hk : ∀ (s : Shared) (H : Hp) (C : Addr) (cl : List (Str × Addr)) (fp : List Addr), PE (X.blk s H scope (compEnvC scope cl C X.env) fp) kx (tW Wk))
    (hv : ∀ (s : Shared) (H : Hp) (C : Addr) (cl : List (Str × Addr)) (fp : List Addr), PE (X.blk s H scope (compEnvC scope cl C X.env) fp) vx (tW Wv)) (hs : ∀ x, foldedSetIterable iter X.env x = pure x := by intro _; rfl)
    (fn : X.env.scope.kind = .function := by rfl) (line : (py.line == pos.line) = true := by rfl) (apart : (scope.names.any fun (n, k) => n == y && (k == .local || k == .cell)) = false := by decide) :
    PS X (.Assign [.Name y py] (.DictComp kx vx [⟨tg, iter, [], 0⟩] scope pos) spos) (tSW E (gSet i (wDc i1 Wi Wk Wv))) :=
  PS.weak (ps_setDc (own := [(x1, i1)]) calm hN hy loc (sw_dict fn loc line apart) hi ok hg hk hv hs) fun D σ H ⟨O, ds, N, R, Z, hS, hO, hG, hNx, hR, hZ⟩ => dc_red ⟨O, ds, _, hS, hO, hG, fun d hd v H1 e1 q1 => hNx _ hd _ H1 e1 ((hS.mono e1).set i q1)⟩
theorem ws_setLc {X : Cx} {i i1 : Nat} {y x1 : Str} {py : Pos} {elt tg iter : Expr} {scope : Scope} {Wi : WI} {We : WE} {pos spos : Pos} {E : XK} (calm : X.calm = true) (hN : X.N.Nodup) (hy : X.N[i]? = some y) (loc : X.env.scope.names.lookup y = some .local) (hi : PI X tg iter (tIW Wi)) (ok : BlkOk X.N X.env.scope scope [(x1, i1)])
    (hg : ∀ (s : Shared) (H : Hp) (C : Addr) (cl : List (Str × Addr)) (fp : List Addr), PG (X.blk s H scope (compEnvC scope cl C X.env) fp) tg (gName i1))
    (he : ∀ (s : Shared) (H : Hp) (C : Addr) (cl : List (Str × Addr)) (fp : List Addr), PE (X.blk s H scope (compEnvC scope cl C X.env) fp) elt (tW We)) (hs : ∀ x, foldedSetIterable iter X.env x = pure x := by intro _; rfl)
    (fn : X.env.scope.kind = .function := by rfl) (line : (py.line == pos.line) = true := by rfl) (apart : (scope.names.any fun (n, k) => n == y && (k == .local || k == .cell)) = false := by decide) :
    PS X (.Assign [.Name y py] (.ListComp elt [⟨tg, iter, [], 0⟩] scope pos) spos) (tSW E (gSet i (wLc i1 Wi We))) :=
  PS.weak (ps_setLc (own := [(x1, i1)]) calm hN hy loc (sw_true fn loc line apart) hi ok hg (fun _ _ _ _ _ => pts_nil) he hs) fun D σ H ⟨O, ds, N, R, Z, hS, hO, hG, hNx, hR, hZ⟩ => lc_red ⟨O, ds, _, hS, hO, hG, fun d hd v H1 e1 q1 => hNx _ hd _ H1 e1 ((hS.mono e1).set i q1)⟩
theorem ws_setLcI {X : Cx} {i i1 : Nat} {y x1 : Str} {py : Pos} {elt tg iter c : Expr} {scope : Scope} {Wi : WI} {T : WT} {We : WE} {pos spos : Pos} {E : XK} (calm : X.calm = true) (hN : X.N.Nodup) (hy : X.N[i]? = some y) (loc : X.env.scope.names.lookup y = some .local) (hi : PI X tg iter (tIW Wi)) (ok : BlkOk X.N X.env.scope scope [(x1, i1)])
    (hg : ∀ (s : Shared) (H : Hp) (C : Addr) (cl : List (Str × Addr)) (fp : List Addr), PG (X.blk s H scope (compEnvC scope cl C X.env) fp) tg (gName i1))
    (ht : ∀ (s : Shared) (H : Hp) (C : Addr) (cl : List (Str × Addr)) (fp : List Addr), PT (X.blk s H scope (compEnvC scope cl C X.env) fp) c (tTW T))
    (he : ∀ (s : Shared) (H : Hp) (C : Addr) (cl : List (Str × Addr)) (fp : List Addr), PE (X.blk s H scope (compEnvC scope cl C X.env) fp) elt (tW We)) (hs : ∀ x, foldedSetIterable iter X.env x = pure x := by intro _; rfl)
    (fn : X.env.scope.kind = .function := by rfl) (line : (py.line == pos.line) = true := by rfl) (apart : (scope.names.any fun (n, k) => n == y && (k == .local || k == .cell)) = false := by decide) :
    PS X (.Assign [.Name y py] (.ListComp elt [⟨tg, iter, [c], 0⟩] scope pos) spos) (tSW E (gSet i (wLcI i1 Wi T We))) :=
  PS.weak (ps_setLc (own := [(x1, i1)]) calm hN hy loc (sw_true fn loc line apart) hi ok hg (fun s H C cl fp => pts_one (ht s H C cl fp)) he hs) fun D σ H ⟨O, ds, N, R, Z, hS, hO, hG, hNx, hR, hZ⟩ => lci_red ⟨O, ds, _, hS, hO, hG, fun d hd v H1 e1 q1 => hNx _ hd _ H1 e1 ((hS.mono e1).set i q1)⟩
end DL

set_option maxHeartbeats 4000000
namespace DL
open PySem PySem.Spec PyProof.Rows L2
variable [TabCtx]
/-! ### several clauses 'except x as n' -/
/-- what one clause asks: its class, the slot of its name, what its suite does -/
structure Clause where
  cls : Value
  at_ : Nat
  does : Addr → Value → Option Addr → TS
def asked (K : PySem.W.Frag) (D : Ends) : List Clause → WX
  | [] => fun _ _ _ _ => False
  | c :: more => fun k d σ H => ∃ b, PySem.W.exmOne K k c.cls = some b ∧ (b = false → asked K D more k d σ H) ∧
      (b = true → ∀ a, H a = none → c.does a k d { nx := fun z => D.nx (z.set c.at_ none), rt := D.rt, bk := fun z => D.bk (z.set c.at_ none), ct := fun z => D.ct (z.set c.at_ none) } (σ.set c.at_ (some (.ref a))) H)
inductive Clauses (X : Cx) : List ExceptHandler → List Clause → Prop
  | last : Clauses X [] []
  | also {x n : Str} {c : Clause} {st : Stmt} {suite : List Stmt} {p q : Pos} {hs : List ExceptHandler} {cs : List Clause} : Names X x c.cls → X.N[c.at_]? = some n → X.env.kindOf n = some .local →
      (∀ (a : Addr) (o : Obj) (k : Value) (d : Option Addr) (pn : List (Addr × Obj)), Zc k d o → (∃ vs, o.data = .fields vs) → PSs (X.suite a ((a, o) :: pn)) (st :: suite) (c.does a k d)) →
      Clauses X hs cs → Clauses X (.ExceptHandler (some (.Name x p)) (some n) (st :: suite) q :: hs) (c :: cs)
theorem ps_clauses {X : Cx} {body : List Stmt} {h1 : ExceptHandler} {hs : List ExceptHandler} {cs : List Clause} {pos : Pos} {tb : WX → TS} (top : X.stack = X.env :: X.outer) (fr : X.env.frame = some X.env.locals) (nd : X.N.Nodup)
    (bd : ∀ (W : WX) (pn : List (Addr × Obj)) (xe : Value → Shared → Prop), Takes (X.tr pn xe) W → PSs (X.tr pn xe) body (tb W)) (cl : Clauses X (h1 :: hs) cs) :
    PS X (.Try body (h1 :: hs) [] [] pos) (fun D σ H => tb (asked X.K D cs) D σ H) := by
  refine ⟨fun pins s σ H D inv pre => wpAny_Try_except ?_⟩
  have frames : X.A.frames = some (X.env :: X.outer) := by rw [inv.ok.frames, top]
  refine wpAny_mono ((bd (asked X.K D cs) (X.pn ++ pins) (fun e t => wpAny (model X.prog X.w) X.A (noteFrame e X.env) (fun _ t1 => wpAny (model X.prog X.w) X.A (setFlight e none)
    (fun _ t2 => wpAny (model X.prog X.w) X.A (handleBy e X.env (h1 :: hs)) (SP X pins D) X.xe t2) X.xe t1) X.xe t) ?_).run [] s σ H D (inv.toTry _) pre) ?_ fun _ _ z => z
  · intro u t raised
    obtain ⟨a, B, sI, _, σ1, H1, k, d, rfl, invT, kept, up1, flies, new, sameOs, gens, wish⟩ := raised
    have inv1 := invT.ofTry inv.ok
    have flies : Sky B (X.env :: X.outer) a (Zc k d) X.env.locals t.heap := by rw [← top]; exact flies
    refine Sky.land Zc.steady frames fr flies fun g fly up2 => ?_
    have inv2 : Inv X pins σ1 H1 { t with heap := g } := inv1.landed kept fly.1 (up1.trans up2) sameOs gens
    obtain ⟨o, vs, at_a, isZ, flds⟩ := fly.there
    have offFrames : a ∉ frs (X.env :: X.outer) := fun m => by
      obtain ⟨_, o2, e2, no⟩ := fly.2.2.1.mem m
      rw [at_a] at e2
      cases e2
      exact no _ flds
    have offLocals : a ≠ X.env.locals := fun e => offFrames (List.mem_filterMap.mpr ⟨X.env, .head _, fr.trans (congrArg some e.symm)⟩)
    have offOuter : a ∉ X.fs := fun m => by
      obtain ⟨e, he, q⟩ := List.mem_filterMap.mp m
      exact offFrames (List.mem_filterMap.mpr ⟨e, .tail _ he, q⟩)
    have invS := inv2.suite at_a flds new offLocals offOuter
    have each : ∀ {l : List ExceptHandler} {m : List Clause}, Clauses X l m → asked X.K D m k d σ1 H1 → wpAny (model X.prog X.w) X.A (handleBy (.ref a) X.env l) (SP X pins D) X.xe { t with heap := g } := by
      intro l m c
      induction c with
      | last => exact fun z => z.elim
      | @also x n c st suite p q hs2 cs2 names slot loc does more ih =>
        rintro ⟨b, isB, no, yes⟩
        have look : PySem.W.Looks (model X.prog X.w) g (typeOf (.ref a)) k := fun _ _ _ _ w z => wpAny_typeOf_ref (w _ _ at_a) (by rw [isZ.1]; exact z)
        have meets := PySem.W.exm_one (M := model X.prog X.w) inv2.kIn look isB
        refine wpAny_handleBy_cons (codeAny_handlers_test ?_) (by intro z; cases z)
        have named : ∀ {Q : Value → Shared → Prop} {E : Value → Shared → Prop}, Q c.cls { t with heap := g } → wpAny (model X.prog X.w) (X.A.mark (some (.ref a))) (eval (.Name x p) X.env) Q E { t with heap := g } := by
          intro Q E z
          rcases names with ⟨g1, g2, g3 | ⟨g3, g4, g5⟩⟩
          · exact ld_glob (X := X.suite a ((a, o) :: (X.pn ++ pins))) invS g1 g3 z g2
          · exact ld_blt (X := X.suite a ((a, o) :: (X.pn ++ pins))) invS g1 g3 g4 z g5 g2
        refine named (meets.here ?_)
        match b, no, yes with
        | false, no, _ => exact ih (no rfl)
        | true, _, yes =>
          refine codeAny_handlers_suite_as (HandSPX.lands_againZ fly fun g2 fly2 up3 => ?_)
          have inv3 : Inv X pins σ1 H1 { t with heap := g2 } := inv1.landed kept fly2.1 ((up1.trans up2).trans up3) sameOs gens
          obtain ⟨o2, vs2, at2, isZ2, flds2⟩ := fly2.there
          refine store_ok (X := X.suite a ((a, o2) :: (X.pn ++ pins))) (v := .ref a) (inv3.suite at2 flds2 new offLocals offOuter) nd slot (.inl loc) rfl (fun t5 inv5 => ?_) (.inr loc)
          refine wpAny_mono ((does a o2 k d (X.pn ++ pins) isZ2 ⟨_, flds2⟩).run [] t5 _ H1 _ inv5 (yes rfl a new)) ?_ fun _ _ z => False.elim z
          intro fl t6 out
          have gone : ∀ {σ6 : L2.St} {H6 : Hp} {Q : Shared → Prop}, Inv (X.suite a ((a, o2) :: (X.pn ++ pins))) [] σ6 H6 t6 → (∀ t7, Inv X pins (σ6.set c.at_ none) H6 t7 → Q t7) →
              wpAny (model X.prog X.w) X.A (do bindName X.env n .none; unbindBehindTheSuite X.env n q) (fun _ t7 => Q t7) X.xe t6 := fun i6 w => gone_ok (i6.unsuite inv.ok) nd slot loc w
          match fl, out with
          | .next, ⟨_, _, i6, w⟩ => exact gone i6 fun _ i7 => ⟨_, _, i7, w⟩
          | .brk, ⟨_, _, i6, w⟩ => exact gone i6 fun _ i7 => ⟨_, _, i7, w⟩
          | .cont, ⟨_, _, i6, w⟩ => exact gone i6 fun _ i7 => ⟨_, _, i7, w⟩
          | .ret u, ⟨_, _, _, i6, r, w⟩ => exact gone i6 fun _ i7 => ⟨_, _, _, i7, r, w⟩
    exact each cl wish
  · intro fl t out
    match fl, out with
    | .next, ⟨_, _, i, w⟩ => exact wpAny_execs_nil ⟨_, _, i.ofTry inv.ok, w⟩
    | .brk, ⟨_, _, i, w⟩ => exact ⟨_, _, i.ofTry inv.ok, w⟩
    | .cont, ⟨_, _, i, w⟩ => exact ⟨_, _, i.ofTry inv.ok, w⟩
    | .ret u, ⟨_, _, _, i, r, w⟩ => exact ⟨_, _, _, i.ofTry inv.ok, r, w⟩
end DL

set_option maxHeartbeats 4000000
namespace DL
open PySem PySem.Spec PyProof.Rows L2 LamX
variable [TabCtx]
/-! ### f(lambda: e), where f says what came of it: try: return (w0, call()) / except C1 as n: return (w1, n.told) / except C2 as n: return (w2, n.told) -/
/-- an exception of the lambda, told behind it -/
def Told (C1 C2 : Addr) (w1 w2 : Str) (Q : VK) : XK := fun k dx H => ∃ (O : Ow) (C dd : Addr) (v : V) (t : D) (w : Str), k = .ref C ∧ dx = some dd ∧ OwnAll O H ∧ Out O dd ∧ H dd = some (.xd [("told", v)]) ∧ Dq O H v t ∧ ((C = C1 ∧ w = w1) ∨ (C = C2 ∧ w = w2)) ∧
  (2 ≤ sizeLine) ∧ ∀ v2 H2, Ext O H H2 → Dq O H2 v2 (.tup [.str w, t]) → Q v2 H2
def TT3 (C1 C2 : Addr) (w0 w1 w2 : Str) : (XK → Hp → VK → Prop) → Hp → VK → Prop := fun tl H Q =>
  tl (Told C1 C2 w1 w2 Q) H fun v H1 => 2 ≤ sizeLine ∧ ∀ p, H1 p = none → Q (.ref p) (upd H1 p (.tup [.str w0, v]))
def gTold (w : Str) (C : Addr) : Addr → Value → Option Addr → WS := fun a k d => gRet (wTup (waCons (wC (.str w)) (waCons (wTold a k d C (wVar 1)) waNil)))
theorem told_tsw {w : Str} {C a dd : Addr} {t : D} {O : Ow} {H : Hp} {σ : L2.St} {v : V} {Dn : Ends} (hs : σ.length = 2) (hO : OwnAll O H) (od : Out O dd) (hd : H dd = some (.xd [("told", v)])) (q : Dq O H v t) (hl : 2 ≤ sizeLine)
    (k : ∀ v2 H2, Ext O H H2 → Dq O H2 v2 (.tup [.str w, t]) → Dn.rt v2 H2) : tSW (fun _ _ _ => False) (gTold w C a (.ref C) (some dd)) Dn (σ.set 1 (some (.ref a))) H := by
  refine ⟨O, [none, some (.exn a dd t)], fun _ => False, fun d => d = .tup [.str w, t], fun _ _ => False, ⟨by rw [List.length_set, hs]; rfl, fun i d hd' => ?_⟩, hO, ?_, fun _ z => z.elim, fun d hd v2 H2 e2 q2 => k v2 H2 e2 (hd ▸ q2), fun _ _ z => z.elim⟩
  · match i, hd' with
    | 0, hd' => cases hd'
    | 1, hd' =>
      cases hd'
      exact ⟨_, List.getElem?_set_self (by omega), .exn od hd q⟩
    | i + 2, hd' => cases hd'
  · exact ⟨_, rfl, dd, t, rfl, rfl, rfl, hl, rfl⟩
theorem takes_len {X : Cx} {W : WX} (tk : Takes X W) : Takes X fun k d σ H => σ.length = X.N.length → W k d σ H := fun u t h => by
  obtain ⟨a, B, sI, pins, σ1, H1, k, d, rfl, inv, r1, r2, r3, r4, r5, r6, w⟩ := h
  exact tk _ t ⟨a, B, sI, pins, σ1, H1, k, d, rfl, inv, r1, r2, r3, r4, r5, r6, w inv.len⟩
theorem three_gives {X : Cx} {x a n e1 e2 q w0 w1 w2 : Str} {sg : Scope} {g C1 C2 M : Addr} {cdg : Value} {j0 j1 j2 k0 k1 k2 : Nat} {p0 p1 p2 p3 p4 p5 p6 p7 p8 p9 q0 q1 q2 q3 q4 q5 q6 q7 q8 q9 : Pos} {x0 x1 x2 : _} (an : ([a, n] : List Str).Nodup)
    (hn : sg.names.lookup n = some .local) (v1 : sg.names.lookup e1 = some .globalImplicit) (v2 : sg.names.lookup e2 = some .globalImplicit) (m1 : X.mg e1 = some (.ref C1)) (m2 : X.mg e2 = some (.ref C2))
    (d1 : (e1 == ("__debug__" : Str)) = false) (d2 : (e2 == ("__debug__" : Str)) = false) (dn : (n == ("__debug__" : Str)) = false) (dc : (n == ("__classdict__" : Str)) = false) (T1 : Ex2 X.K C1 M) (T2 : Ex2 X.K C2 M) (no : PySem.W.exmOne X.K (.ref C2) (.ref C1) = some false) :
    GivesTo X [a, n] x sg g cdg [.Try [.Return (some (.Tuple [.Constant (.str w0) j0 q0, .Call (.Name a p0) [] [] p1] x0 q1)) p2]
      [.ExceptHandler (some (.Name e1 p3)) (some n) [.Return (some (.Tuple [.Constant (.str w1) j1 q2, .Attribute (.Name n q3) "told" q4] x1 q5)) p4] p5,
       .ExceptHandler (some (.Name e2 p6)) (some n) [.Return (some (.Tuple [.Constant (.str w2) j2 q6, .Attribute (.Name n q7) "told" q8] x2 q9)) p7] p8] [] [] p9] a q (TT3 C1 C2 w0 w1 w2) := by
  intro f c' s H Q tl act hc h
  have hg1 : Gl (cxOf C8.CX0 X.prog X.w X.K X.mg X.base [a, n] x sg g cdg X.A X.stack s H C8.E0).nox e1 := v1
  have hg2 : Gl (cxOf C8.CX0 X.prog X.w X.K X.mg X.base [a, n] x sg g cdg X.A X.stack s H C8.E0).nox e2 := v2
  refine ⟨_, pss_one (ps_clauses (X := (cxOf C8.CX0 X.prog X.w X.K X.mg X.base [a, n] x sg g cdg X.A X.stack s H C8.E0).nox)
      (cs := [⟨.ref C1, 1, fun b k d => tSW (fun _ _ _ => False) (gTold w1 C1 b k d)⟩, ⟨.ref C2, 1, fun b k d => tSW (fun _ _ _ => False) (gTold w2 C2 b k d)⟩])
      (tb := fun W D σ H => ∃ Ech : XK, (∀ cls d σ' H', Ech cls d H' → σ'.length = 2 → W cls d σ' H') ∧ σ[0]? = some (some (.ref f)) ∧ H c' = some (CodeO c' q) ∧ tl Ech H fun v H1 => 2 ≤ sizeLine ∧ ∀ p, H1 p = none → D.rt (.ref p) (upd H1 p (.tup [.str w0, v])))
      rfl rfl an (fun W pn xe tk => ⟨fun pins s' σ H' D I h' => ?_⟩)
      (.also ⟨hg1, d1, .inl m1⟩ rfl hn (fun b o k d pn hz hf => ?_) (.also ⟨hg2, d2, .inl m2⟩ rfl hn (fun b o k d pn hz hf => ?_) .last))), ?_⟩
  · obtain ⟨Ech, hW, h1, h2, h3⟩ := h'
    have hp := act (fun k d σ H => σ.length = 2 → W k d σ H) pn xe Ech p0 p1 (takes_len tk) hW
    exact (pss_one (ps_ret (pos := p2) (pe_tup (x1 := x0) (pos := q1) (pa_cons (pe_str (j := j0) (pos := q0)) (pa_cons hp pa_nil))))).run pins s' σ H' D I ⟨h1, h2, h3⟩
  · show PSs _ _ (tSW (fun _ _ _ => False) (gRet (wTup (waCons (wC (.str w1)) (waCons (wTold b k d C1 (wVar 1)) waNil)))))
    exact wss_one (ws_ret (we_tup (wa_cons (we_c pe_str) (wa_cons (we_told (X := (cxOf C8.CX0 X.prog X.w X.K X.mg X.base [a, n] x sg g cdg X.A X.stack s H C8.E0).nox) T1 hz hf (we_var (pe_var (i := 1) rfl (.inl (by exact hn)) dn dc))) wa_nil))))
  · show PSs _ _ (tSW (fun _ _ _ => False) (gRet (wTup (waCons (wC (.str w2)) (waCons (wTold b k d C2 (wVar 1)) waNil)))))
    exact wss_one (ws_ret (we_tup (wa_cons (we_c pe_str) (wa_cons (we_told (X := (cxOf C8.CX0 X.prog X.w X.K X.mg X.base [a, n] x sg g cdg X.A X.stack s H C8.E0).nox) T2 hz hf (we_var (pe_var (i := 1) rfl (.inl (by exact hn)) dn dc))) wa_nil))))
  · refine ⟨Told C1 C2 w1 w2 Q, fun k dx σ' H' hx len => ?_, rfl, hc, h⟩
    obtain ⟨O, C, dd, v, t, w, rfl, rfl, hO, od, hd, qt, hw, hl, kk⟩ := hx
    rcases hw with ⟨rfl, rfl⟩ | ⟨rfl, rfl⟩
    · exact ⟨true, T1.em, fun z => (nomatch z), fun _ b _ => told_tsw len hO od hd qt hl kk⟩
    · exact ⟨false, no, fun _ => ⟨true, T2.em, fun z => (nomatch z), fun _ b _ => told_tsw len hO od hd qt hl kk⟩, fun z => (nomatch z)⟩
/-- f(lambda: e): B is e's reading -/
def wLam3 (C1 C2 : Addr) (w0 w1 w2 : Str) (B : WZ) : WE := fun ds P => B ds (fun d => P (.tup [.str w0, d])) fun C t => (C = C1 ∧ P (.tup [.str w1, t])) ∨ (C = C2 ∧ P (.tup [.str w2, t]))
theorem ext_of {O : Ow} {H H1 : Hp} (e : ExtN H H1) (hT : Tabs TabCtx.T H1) (hO : OwnAll O H) : Ext O H H1 :=
  ⟨fun b o _ h n => e b o h n, fun p hp ⟨o, h, k⟩ => by
    obtain ⟨a, w⟩ := p
    cases w with
    | src =>
      obtain ⟨x, y, rfl, h1, h2⟩ := k
      exact ⟨_, e _ _ h (by intro ps z; cases z), x, y, rfl, h1, h2⟩
    | hold o' =>
      have k' : o = o' := k
      subst k'
      exact ⟨_, e _ _ h (hO.tabs.held _ _ hp), rfl⟩
    | tab q =>
      obtain ⟨ps, h1, h2, h3⟩ := hT _ ((hO.tabs.iff (a, q)).mpr hp)
      exact ⟨_, h1, ps, rfl, h2, h3⟩⟩
theorem own_tabs {O : Ow} {H : Hp} (hO : OwnAll O H) : Tabs TabCtx.T H := fun p hp => by
  obtain ⟨o, h, ps, rfl, h2, h3⟩ := hO.here _ ((hO.tabs.iff p).mp hp)
  exact ⟨ps, h, h2, h3⟩
theorem sizeTwo : 2 ≤ sizeLine := line_big (by omega)
theorem we_lam3 {X : Cx} {x a : Str} {g c P C1 C2 : Addr} {w0 w1 w2 : Str} {k : Nat} {pg : Arguments} {bg : List Stmt} {sg : Scope} {dV kV doc pm cdv ct oc : Value} {an od : Option Addr} {osl : Array (Option Value)} {Ng : List Str} {params : Arguments} {body : Expr} {scope : Scope} {B : WZ} {p lpos pos : Pos}
    (hg : Gl X x) (hm : X.mg x = some (.ref g)) (hk : PySem.W.keepIn X.K (.ref g) = true) (lk : X.K.lookup g = some ⟨oc, od, .func (PySem.W.fnOf x x pg bg sg dV kV doc pm an cdv ct), osl⟩) (hcg : PySem.W.codeIn X.K cdv x = true) (hb : Binds X.K (PySem.W.fnOf x x pg bg sg dV kV doc pm an cdv ct) [a] []) (Sg : FnScope Ng [a] sg)
    (hNg : Ng[0]? = some a) (hva : Vis sg a) (hG : GivesTo X Ng x sg g cdv bg a (X.env.qual ++ "<lambda>") (TT3 C1 C2 w0 w1 w2)) (TB : TabB X.base X.mg c P) (hcode : X.env.code = .ref c) (hmT : (P, X.env.qual ++ "<lambda>") ∈ TabCtx.T) (hu : ∀ p ∈ TabCtx.T, p.1 = P → p.2 = X.env.qual ++ "<lambda>") (hr : Room (k + 2) X.A)
    (L : LamS X.env.scope scope) (hdef : defaultsOf params X.env = ([], [])) (hbind : ∀ (q : Str) (cl : List (Str × Addr)) (pm cv ctv : Value), bindArgs (PySem.W.kla_fn "<lambda>" q params body scope cl pm cv ctv) ⟨[], []⟩ = pure [])
    (hbody : ∀ (A : Around) (outer : List Env) (s : Shared) (H : Hp) (E : XK) (f c' : Addr), Room k (A.deeper (lamEnv X scope s.heap.objs.size f c')) → PE (lamCx X A outer s H E scope f c') body (tZW (fun cls d _ H' => E cls d H') B))
    (hdb : (x == ("__debug__" : Str)) = false := by decide) (hd : (a == ("__debug__" : Str)) = false := by decide) (hcd : (a == ("__classdict__" : Str)) = false := by decide) :
    PE X (.Call (.Name x p) [.Lambda params body scope lpos] [] pos) (tW (wLam3 C1 C2 w0 w1 w2 B)) :=
  PE.weak (pe_lamcall (T := TabCtx.T) (t := fun E => tZW (fun cls d _ H' => E cls d H') B) hg hm hk lk hcg hb Sg hNg hva hG TB hcode hmT hu hr L hdef hbind hbody hdb hd hcd) fun σ H Q ⟨O, ds, P, hS, hO, hW, kk⟩ => ⟨own_tabs hO, fun H1 eN T1 => by
    have e1 := ext_of eN T1 hO
    have O1 := hO.mono e1
    refine ⟨O, ds, _, _, hS.mono e1, O1, hW, fun d hd v H2 e2 q2 => ⟨sizeTwo, fun q hq => kk _ hd _ _ ((e1.trans e2).trans (.new hq)) (.tup ((O1.mono e2).out hq) (.of upd_same) (.cons (.str _) (.cons (q2.mono (.new hq)) .nil)))⟩, fun C t hz dx v H2 e2 ox hx q2 => ?_⟩
    rcases hz with ⟨rfl, hp⟩ | ⟨rfl, hp⟩
    · exact ⟨O, C, dx, v, t, w1, rfl, rfl, O1.mono e2, ox, hx, q2, .inl ⟨rfl, rfl⟩, sizeTwo, fun v2 H3 e3 q3 => kk _ hp v2 H3 ((e1.trans e2).trans e3) q3⟩
    · exact ⟨O, C, dx, v, t, w2, rfl, rfl, O1.mono e2, ox, hx, q2, .inr ⟨rfl, rfl⟩, sizeTwo, fun v2 H3 e3 q3 => kk _ hp v2 H3 ((e1.trans e2).trans e3) q3⟩⟩
end DL

set_option maxHeartbeats 4000000
namespace DL
open PySem PySem.Spec PyProof.Rows L2
variable [TabCtx]
/-! ### a list or a tuple gone through -/
theorem PI.or {X : Cx} {tg e : Expr} {t u : TI} (h : PI X tg e t) (k : PI X tg e u) : PI X tg e fun σ H R => t σ H R ∨ u σ H R :=
  ⟨fun pins s σ H R I q => q.elim (fun q => h.run pins s σ H R I q) fun q => k.run pins s σ H R I q⟩
def wiAny (W : WE) : WI := fun ds P => wiLst W ds P ∨ wiTup W ds P
theorem wi_any {X : Cx} {tg e : Expr} {W : WE} (h : PE X e (tW W)) : PI X tg e (tIW (wiAny W)) :=
  PI.weak (PI.or (wi_lst h) (wi_tup h)) fun σ H R ⟨O, ds, P, hS, hO, hW, k⟩ => hW.elim (fun q => Or.inl ⟨O, ds, P, hS, hO, q, k⟩) fun q => Or.inr ⟨O, ds, P, hS, hO, q, k⟩
/-! ### a, b = x, y -/
def gPar (i j : Nat) (A : WA) : WS := fun ds N _ _ => A ds fun es => ∃ x y, es = [x, y] ∧ N ((ds.set i (some x)).set j (some y))
theorem ws_par {X : Cx} {i j : Nat} {x y : Str} {a b : Expr} {A : WA} {px py pt pos : Pos} {kt k2 pt2} {E : XK} (hc : X.calm = true) (hN : X.N.Nodup) (hi : X.N[i]? = some x) (hj : X.N[j]? = some y) (hij : i ≠ j)
    (hx : X.env.scope.names.lookup x = some .local) (hy : X.env.scope.names.lookup y = some .local) (ha : PA X [a, b] (tAW A))
    (hw : swappedStores [.Tuple [.Name x px, .Name y py] kt pt] (.Tuple [a, b] k2 pt2) X.env = pure (some [x, y]) := by rfl)
    (hs : swapsWithSole [.Tuple [.Name x px, .Name y py] kt pt] (.Tuple [a, b] k2 pt2) pos.line X.env = pure false := by rfl) :
    PS X (.Assign [.Tuple [.Name x px, .Name y py] kt pt] (.Tuple [a, b] k2 pt2) pos) (tSW E (gPar i j A)) :=
  PS.weak (ps_par hc hN hi hj hij hx hy ha hw hs) fun D σ H ⟨O, ds, N, R, Z, hS, hO, hG, hN, hR, hZ⟩ => ⟨O, ds, _, hS, hO, hG, fun es hes vs H1 e1 q1 => by
    obtain ⟨dx, dy, rfl, hn⟩ := hes
    cases q1 with
    | cons qa qb =>
      cases qb with
      | cons qb qc =>
        cases qc
        exact ⟨_, _, rfl, hN _ hn _ H1 e1 (((hS.mono e1).set i qa).set j qb)⟩⟩
/-! ### ranges with a step -/
def many (i j c : Int) : Nat := if i < j then ((j - i - 1) / c + 1).toNat else 0
def stepsD (i c : Int) (n : Nat) : List D := (List.range n).map fun (k : Nat) => D.int (i + (k : Int) * c)
/-- small, and upwards -/
def RgD (i j c : Int) : Prop := 0 ≤ i ∧ i < 100000 ∧ 0 ≤ j ∧ j < 100000 ∧ 0 < c ∧ c < 100000
theorem many_le {i j c : Int} (h : RgD i j c) : many i j c ≤ 100000 := by
  obtain ⟨h1, h2, h3, h4, h5, h6⟩ := h
  unfold many
  split
  · have := Int.ediv_le_self (a := j - i - 1) c (by omega)
    omega
  · omega
theorem many_rs {i j c : Int} (h : RgD i j c) : Builtin.Range.rangeSize i j c = (many i j c : Int) := by
  obtain ⟨h1, h2, h3, h4, h5, h6⟩ := h
  unfold Builtin.Range.rangeSize many
  rw [if_pos h5]
  split
  · have := Int.ediv_nonneg (a := j - i - 1) (b := c) (by omega) (by omega)
    omega
  · rfl
theorem many_small {i j c : Int} (h : RgD i j c) : Builtin.Range.small i j c = true := by
  have hm := many_le h
  have hr := many_rs h
  obtain ⟨h1, h2, h3, h4, h5, h6⟩ := h
  have hz : (many i j c : Int) ≤ 100000 := by omega
  have hz0 : 0 ≤ (many i j c : Int) := by omega
  have hk : (many i j c : Int) * c ≤ 100000 * 100000 := Int.mul_le_mul (by omega) (by omega) (by omega) (by omega)
  have hk0 : 0 ≤ (many i j c : Int) * c := Int.mul_nonneg (by omega) (by omega)
  have hk2 : ((many i j c : Int) - 1) * c = (many i j c : Int) * c - c := by rw [Int.sub_mul, Int.one_mul]
  unfold Builtin.Range.small
  rw [hr]
  generalize (many i j c : Int) = z at *
  simp only [Builtin.Range.rangeFitsLong, Bool.and_eq_true, Bool.or_eq_true, decide_eq_true_eq, beq_iff_eq, if_pos h5]
  omega
def wiRg3 (A : WA) : WI := fun ds P => A ds fun es => ∃ i j c : Int, es = [.int i, .int j, .int c] ∧ RgD i j c ∧ P (stepsD i c (many i j c))
theorem steps_get {i c : Int} {n k : Nat} (h : k < n) : (stepsD i c n)[k]? = some (.int (i + (k : Int) * c)) := by
  unfold stepsD
  rw [List.getElem?_map, List.getElem?_range h]
  rfl
section
variable {X : Cx} {tg a b c : Expr} {A : WA} {p pos : Pos}
theorem wi_rg3 (hg : Gl X "range") (hm : X.mg "range" = none) (ha : PA X [a, b, c] (tAW A)) (hs : starEach [a, b, c] X.env = (false, eval a X.env) :: starEach [b, c] X.env := by rfl) (hpl : (backTo pos (starEach [b, c] X.env)).any (·.1) = false := by rfl) :
    PI X tg (.Call (.Name "range" p) [a, b, c] [] pos) (tIW (wiRg3 A)) :=
  PI.weak (pi_range3 hg hm ha hs hpl) fun σ H R ⟨O, ds, P, hS, hO, hW, k⟩ => ⟨O, ds, _, hS, hO, hW, fun es hes vs H1 e1 q1 => by
    obtain ⟨i, j, c, rfl, hr, hp⟩ := hes
    cases q1 with
    | cons qa q1 =>
      cases q1 with
      | cons qb q1 =>
        cases q1 with
        | cons qc q1 =>
          cases q1
          cases qa
          cases qb
          cases qc
          have hr' := hr
          obtain ⟨h1, h2, h3, h4, h5, h6⟩ := hr'
          refine ⟨i, j, c, many i j c, rfl, ⟨by omega, by omega, many_small hr, many_rs hr⟩, k _ hp _ H1 e1 ⟨fun _ => True, ?_, fun _ _ => trivial⟩⟩
          have hl : (stepsD i c (many i j c)).length = many i j c := by simp [stepsD]
          rw [hl]
          exact walk_rangeC.mono (fun _ z => z) fun m H x H' hi _ y => by
            obtain ⟨y1, rfl⟩ := y
            exact ⟨y1, _, steps_get hi, .int _⟩⟩
/-- tuple(range(i, j, c)) -/
def wTupRg3 (A : WA) : WE := fun ds P => A ds fun es => ∃ i j c : Int, es = [.int i, .int j, .int c] ∧ RgD i j c ∧ P (.tup (stepsD i c (many i j c)))
theorem vals_steps {i c : Int} {n : Nat} {acc : Array Value} (h : ItemsOf (fun k v => ∃ t, v = .int (i + k * c) t) acc n) : Vals ((List.range n).map fun (k : Nat) => V.int (i + (k : Int) * c)) acc.toList := by
  have e : acc.toList.length = n := by rw [Array.length_toList]; exact h.1
  rw [← e]
  refine vals_of_get acc.toList _ fun k u hk => ?_
  obtain ⟨t, rfl⟩ := h.2 k u (by rw [← hk, Array.getElem?_toList])
  exact ⟨t, rfl⟩
theorem pe_tupRg3 {p2 pos2 : Pos} {ta : TA} (hc : X.calm = true) (hg : Gl X "tuple") (hm : X.mg "tuple" = none) (hg2 : Gl X "range") (hm2 : X.mg "range" = none) (ha : PA X [a, b, c] ta) (hs : starEach [a, b, c] X.env = (false, eval a X.env) :: starEach [b, c] X.env := by rfl) (hpl : (backTo pos2 (starEach [b, c] X.env)).any (·.1) = false := by rfl)
    (na : starEach [.Call (.Name "range" p2) [a, b, c] [] pos2] X.env = (false, eval (.Call (.Name "range" p2) [a, b, c] [] pos2) X.env) :: starEach [] X.env := by rfl) :
    PE X (.Call (.Name "tuple" p) [.Call (.Name "range" p2) [a, b, c] [] pos2] [] pos) (fun σ H Q => ta σ H fun vs H1 => ∃ i j c : Int, vs = [.int i, .int j, .int c] ∧ RgD i j c ∧ ∀ q, H1 q = none → Q (.ref q) (upd H1 q (.tup ((List.range (many i j c)).map fun (k : Nat) => V.int (i + (k : Int) * c))))) := by
  refine ⟨fun pins s σ H Q I h => ?_⟩
  refine Call_ (ld_blt I hg hm boot_tuple (PyProof.Rows.callWith_type1 (args_cons (Call_ (ld_blt I hg2 hm2 boot_range (PyProof.Rows.callWith_type1 (thn (ha.run pos2 pins s σ H _ I h) fun us s1 ⟨vs, H1, I1, r1, q1⟩ => ?_) hs hpl))) na) na))
  obtain ⟨i, j, c, rfl, hr, q⟩ := q1
  cases r1 with
  | cons ra r1 =>
    cases r1 with
    | cons rb r1 =>
      cases r1 with
      | cons rc r1 =>
        cases r1
        obtain ⟨ta, rfl⟩ := ra
        obtain ⟨tb, rfl⟩ := rb
        obtain ⟨tc, rfl⟩ := rc
        have hr' := hr
        obtain ⟨h1, h2, h3, h4, h5, h6⟩ := hr'
        refine call_range_3 (by omega) ?_ (.inl (PyProof.noPylong_small (by omega)))
        have I2 : Inv X pins σ H1 { s1 with heap := s1.heap.push { cls := .type "range", data := .fields #[.int i ta, .int j tb, .int c tc] } } := I1.kept (t' := s1.toks) fun b o e => Heap.get?_push_of_some _ e
        refine args_nil (call_tuple_range (n := many i j c) (I2.ok.hd hc) (IsRange.new ..) (many_small hr) (many_rs hr) (Nat.le_trans (many_le hr) (by decide)) fun h' tk acc hk hi => ?_)
        have I3 := I2.kept (t' := tk) hk
        have hl := many_le hr
        refine ⟨.ref h'.objs.size, upd H1 h'.objs.size (.tup ((List.range (many i j c)).map fun (k : Nat) => V.int (i + (k : Int) * c))), I3.laid (t' := tk) (fun _ _ e => Heap.get?_push_of_some _ e) (Nat.le_refl _) (show ObjOk X.prog X.w _ _ _ (.tup _) from ⟨?_, acc.toList, vals_steps hi, ?_⟩), rfl, q _ (I3.hok.fresh (Nat.le_refl _))⟩
        · rw [List.length_map, List.length_range, sizeLine_eq]
          omega
        · rw [Array.toArray_toList]
          exact IsTup.new _ _
theorem dq_steps {O : Ow} {H : Hp} {i c : Int} {n : Nat} : DqAll O H ((List.range n).map fun (k : Nat) => V.int (i + (k : Int) * c)) (stepsD i c n) := by
  unfold stepsD
  generalize List.range n = l
  induction l with
  | nil => exact .nil
  | cons x xs ih => exact .cons (.int _) ih
theorem we_tupRg3 {p2 pos2 : Pos} (hc : X.calm = true) (hg : Gl X "tuple") (hm : X.mg "tuple" = none) (hg2 : Gl X "range") (hm2 : X.mg "range" = none) (ha : PA X [a, b, c] (tAW A)) (hs : starEach [a, b, c] X.env = (false, eval a X.env) :: starEach [b, c] X.env := by rfl) (hpl : (backTo pos2 (starEach [b, c] X.env)).any (·.1) = false := by rfl)
    (na : starEach [.Call (.Name "range" p2) [a, b, c] [] pos2] X.env = (false, eval (.Call (.Name "range" p2) [a, b, c] [] pos2) X.env) :: starEach [] X.env := by rfl) :
    PE X (.Call (.Name "tuple" p) [.Call (.Name "range" p2) [a, b, c] [] pos2] [] pos) (tW (wTupRg3 A)) :=
  PE.weak (pe_tupRg3 hc hg hm hg2 hm2 ha hs hpl na) fun σ H Q ⟨O, ds, P, hS, hO, hW, k⟩ => ⟨O, ds, _, hS, hO, hW, fun es hes vs H1 e1 q1 => by
    obtain ⟨i, j, c, rfl, hr, hp⟩ := hes
    cases q1 with
    | cons qa q1 =>
      cases q1 with
      | cons qb q1 =>
        cases q1 with
        | cons qc q1 =>
          cases q1
          cases qa
          cases qb
          cases qc
          exact ⟨i, j, c, rfl, hr, fun q hq => k _ hp _ _ (e1.trans (.new hq)) (.tup ((hO.mono e1).out hq) (.of upd_same) dq_steps)⟩⟩
end
/-! ### abs, min, max -/
def fMin : DFn := fun es P => match es with
  | [.int i, .int j] => P (.int (if j < i then j else i))
  | _ => False
def fAbs : DFn := fun es P => match es with
  | [.int i] => P (.int (if i < 0 then -i else i))
  | _ => False
def intsOf : List D → Option (List Int)
  | [] => some []
  | .int i :: r => (intsOf r).map (i :: ·)
  | _ :: _ => none
def fMaxL : DFn := fun es P => match es with
  | [.lst ds] => ∃ ns, intsOf ds = some ns ∧ ns ≠ [] ∧ ∀ m, m ∈ ns → (∀ y ∈ ns, y ≤ m) → P (.int m)
  | _ => False
def fMinL : DFn := fun es P => match es with
  | [.lst ds] => ∃ ns, intsOf ds = some ns ∧ ns ≠ [] ∧ ∀ m, m ∈ ns → (∀ y ∈ ns, m ≤ y) → P (.int m)
  | _ => False
theorem ints_vs {O : Ow} {H : Hp} : ∀ {ds : List D} {ns : List Int} {vs : List V}, intsOf ds = some ns → DqAll O H vs ds → vs = ns.map V.int
  | [], ns, _, h, .nil => by
    cases h
    rfl
  | .int i :: r, ns, _, h, .cons (.int _) q => by
    unfold intsOf at h
    cases hr : intsOf r with
    | none =>
      rw [hr] at h
      cases h
    | some ms =>
      rw [hr] at h
      cases h
      rw [ints_vs hr q]
      rfl
section
variable {X : Cx}
theorem call_fMin (hc : X.calm = true) : CallR X (.builtin "min") (rF fMin) := by
  intro pins s σ H xs us Q I r ⟨O, es, P, hq, hO, hg, k⟩
  unfold fMin at hg
  split at hg
  · cases hq with
    | cons a b =>
      cases b with
      | cons a2 b2 =>
        cases b2; cases a; cases a2
        exact call_min2 hc pins s σ H _ us Q I r ⟨_, _, rfl, k _ hg _ H (.refl _ _) (.int _)⟩
  · exact hg.elim
theorem call_fAbs : CallR X (.builtin "abs") (rF fAbs) := by
  intro pins s σ H xs us Q I r ⟨O, es, P, hq, hO, hg, k⟩
  unfold fAbs at hg
  split at hg
  · cases hq with
    | cons a b =>
      cases b; cases a
      exact call_abs pins s σ H _ us Q I r ⟨_, rfl, k _ hg _ H (.refl _ _) (.int _)⟩
  · exact hg.elim
theorem call_fMaxL (hc : X.calm = true) : CallR X (.builtin "max") (rF fMaxL) := by
  intro pins s σ H xs us Q I r ⟨O, es, P, hq, hO, hg, k⟩
  unfold fMaxL at hg
  split at hg
  · cases hq with
    | cons a b =>
      cases b
      obtain ⟨ns, h1, h2, h3⟩ := hg
      cases a with
      | lst o1 r1 a1 =>
        have e := ints_vs h1 a1
        subst e
        exact cr_max hc pins s σ H _ us Q I r ⟨_, ns, rfl, .of r1, List.length_pos_iff.mpr h2, fun m hm hy => k _ (h3 m hm hy) _ H (.refl _ _) (.int _)⟩
  · exact hg.elim
theorem call_fMinL (hc : X.calm = true) : CallR X (.builtin "min") (rF fMinL) := by
  intro pins s σ H xs us Q I r ⟨O, es, P, hq, hO, hg, k⟩
  unfold fMinL at hg
  split at hg
  · cases hq with
    | cons a b =>
      cases b
      obtain ⟨ns, h1, h2, h3⟩ := hg
      cases a with
      | lst o1 r1 a1 =>
        have e := ints_vs h1 a1
        subst e
        exact cr_min hc pins s σ H _ us Q I r ⟨_, ns, rfl, .of r1, List.length_pos_iff.mpr h2, fun m hm hy => k _ (h3 m hm hy) _ H (.refl _ _) (.int _)⟩
  · exact hg.elim
end
end DL

set_option maxHeartbeats 4000000
namespace DL
open PySem PySem.Spec PyProof.Rows L2
variable [TabCtx]
/-! ### [e for a, b in zip(x, y)] -/
theorem walk_zipT {K : PySem.W.Frag} {a b : Addr} {xs ys : List V} {n : Nat} (hn : n = min xs.length ys.length) : Walk (RZ.ItzT K a b) n (fun H => SqT K H a xs ∧ SqT K H b ys) (YPair (fun i => xs[i]?) (fun i => ys[i]?)) := by
  subst hn
  refine ⟨fun i _ hi q => ⟨xs, ys, xs[i]'(by omega), ys[i]'(by omega), q.1, q.2, by simp, by simp⟩, fun _ q => ⟨xs, ys, q.1, q.2, by omega⟩, fun i H v H' _ q y => ?_⟩
  obtain ⟨T, x, z, h1, h2, h3, h4, h5⟩ := y
  exact ⟨T, x, z, h1, h2, h3, h4 xs q.1, h5 ys q.2⟩
def DWalk2 (O : Ow) (J : It) (xs ys : List D) (H : Hp) : Prop := ∃ (G : Hp → Prop) (vx vy : List V), DqAll O H vx xs ∧ DqAll O H vy ys ∧ Walk J (min xs.length ys.length) G (YPair (fun i => vx[i]?) (fun i => vy[i]?)) ∧
  ∀ H2, (∀ b o, Out O b → H b = some o → NT o → H2 b = some o) → G H2
abbrev WI2 := Sl → (List D → List D → Prop) → Prop
def tIW2 (W : WI2) : TI := fun σ H R => ∃ (O : Ow) (ds : Sl) (P : List D → List D → Prop), SlD O H σ ds ∧ OwnAll O H ∧ W ds P ∧ ∀ xs ys, P xs ys → ∀ J H', Ext O H H' → DWalk2 O J xs ys H' → R J H'
def wiZip (Wa Wb : WE) : WI2 := fun ds P => Wa ds fun x => Wb ds fun y => ∃ xs ys, ((x = .lst xs ∧ y = .lst ys) ∨ (x = .tup xs ∧ y = .tup ys)) ∧ P xs ys
theorem wi_zip {X : Cx} {e e2 : Expr} {Wa Wb : WE} {p pos tpos : Pos} {elts : List Expr} {kk : Nat} (hg : Gl X "zip") (hm : X.mg "zip" = none) (ha : PE X e (tW Wa)) (hb : PE X e2 (tW Wb))
    (hs : starEach [e, e2] X.env = (false, eval e X.env) :: starEach [e2] X.env := by rfl) (hs2 : starEach [e2] X.env = (false, eval e2 X.env) :: starEach [] X.env := by rfl) (hpl : (backTo pos (starEach [e2] X.env)).any (·.1) = false := by rfl) :
    PI X (.Tuple elts kk tpos) (.Call (.Name "zip" p) [e, e2] [] pos) (tIW2 (wiZip Wa Wb)) :=
  PI.weak (RZ.pi_zipA hg hm (wa_cons ha (wa_cons hb wa_nil hs2) hs) hs hpl) fun σ H R ⟨O, ds, P, hS, hO, hW, k⟩ => ⟨O, ds, fun es => match es with
      | [x, y] => ∃ xs ys, ((x = .lst xs ∧ y = .lst ys) ∨ (x = .tup xs ∧ y = .tup ys)) ∧ P xs ys
      | _ => False, hS, hO, hW, fun es hes vs H1 e1 q1 => by
    match es, hes, q1 with
    | [x, y], hes, q1 =>
    obtain ⟨xs, ys, hxy, hp⟩ := hes
    cases q1 with
    | cons qx q1 =>
      cases q1 with
      | cons qy q1 =>
        cases q1
        rcases hxy with ⟨rfl, rfl⟩ | ⟨rfl, rfl⟩
        · cases qx with
          | lst o1 r1 a1 =>
            cases qy with
            | lst o2 r2 a2 =>
              exact ⟨_, _, _, _, rfl, .inl ⟨.of r1, .of r2, k _ _ hp _ _ e1 ⟨_, _, _, a1, a2, walk_zip (by rw [a1.length, a2.length]), fun H2 kp => ⟨.of (kp _ _ o1 r1 (by intro ps z; cases z)), .of (kp _ _ o2 r2 (by intro ps z; cases z))⟩⟩⟩⟩
        · cases qx with
          | tup o1 r1 a1 =>
            cases qy with
            | tup o2 r2 a2 =>
              exact ⟨_, _, _, _, rfl, .inr ⟨.inl r1, .inl r2, k _ _ hp _ _ e1 ⟨_, _, _, a1, a2, walk_zipT (by rw [a1.length, a2.length]), fun H2 kp => ⟨.inl (rd_keep kp o1 r1), .inl (rd_keep kp o2 r2)⟩⟩⟩⟩⟩
def wEach2 (f : D → D → (D → Prop) → Prop) : List D → List D → (List D → Prop) → Prop
  | x :: xs, y :: ys, P => f x y fun z => wEach2 f xs ys fun zs => P (z :: zs)
  | _, _, P => P []
def at2 (i1 i2 : Nat) (ds : Sl) (a b : D) : Sl := ((wipeD ds [i1, i2]).set i1 (some a)).set i2 (some b)
def wLcZ (i1 i2 : Nat) (Wi : WI2) (We : WE) : WE := fun ds P => Wi ds fun xs ys => min xs.length ys.length < sizeLine ∧ wEach2 (fun a b P' => We (at2 i1 i2 ds a b) P') xs ys fun zs => P (.lst zs)
theorem each2_end {f : D → D → (D → Prop) → Prop} {xs ys : List D} {P : List D → Prop} {n : Nat} (hn : n = min xs.length ys.length) (h : wEach2 f (xs.drop n) (ys.drop n) P) : P [] := by
  rcases Nat.le_total xs.length ys.length with l | l
  · rw [hn, Nat.min_eq_left l, List.drop_length] at h
    exact h
  · rw [hn, Nat.min_eq_right l, List.drop_length] at h
    cases hx : xs.drop ys.length with
    | nil =>
      rw [hx] at h
      exact h
    | cons a b =>
      rw [hx] at h
      exact h
theorem lcz_red {i1 i2 : Nat} {Wi : WI2} {We : WE} {K : PySem.W.Frag} {σ : L2.St} {H : Hp} {Q : VK} (h : tW (wLcZ i1 i2 Wi We) σ H Q) : tLc (tIW2 Wi) (gTup K 2 (gCons (gName i1) (gCons (gName i2) gNil))) tYes (tW We) [i1, i2] σ H Q := by
  obtain ⟨O, ds, P, hS, hO, hW, k⟩ := h
  refine ⟨O, ds, _, hS, hO, hW, fun xs ys ⟨hl, hx⟩ J H1 e1 ⟨G, vx, vy, ax, ay, w, hG⟩ D nD => ?_⟩
  have S1 := hS.mono e1
  have O1 := hO.mono e1
  have oD : Out O D := O1.out nD
  have kN : ∀ b o, Out (O ++ [(D, Own.hold (HO.lst []))]) b → H1 b = some o → NT o → upd H1 D (.lst []) b = some o := fun b o x hh _ => by
    rw [upd_ne x.hold_ne]
    exact hh
  refine lc_it w (fun j H2 => ∃ acc dacc, acc.length ≤ j ∧ Hd O D acc H2 (L2.wipe σ [i1, i2]) (wipeD ds [i1, i2]) dacc ∧ (∀ b o, Out O b → H1 b = some o → NT o → H2 b = some o) ∧
    wEach2 (fun a b P' => We (at2 i1 i2 ds a b) P') (xs.drop j) (ys.drop j) fun zs => P (.lst (dacc ++ zs))) ?h0 ?hG ?hs ?hd
  case h0 => exact ⟨[], [], Nat.le_refl _, ⟨((S1.more (fresh_none nD)).keep kN).wipe _, .nil, OwnAll.hold (O1.mono (.new nD)) oD upd_same⟩, (Ext.new nD).keep, by simpa using hx⟩
  case hG =>
    rintro j H2 _ ⟨_, _, _, _, kp, _⟩
    exact hG H2 kp
  case hs =>
    rintro j x H2 H' hj ⟨acc, dacc, ha, hd, kp, hw⟩ ⟨T, a, b, rfl, hT, rfl, hxa, hyb⟩
    have j1 : j < xs.length := by omega
    have j2 : j < ys.length := by omega
    obtain ⟨a', ea, qa⟩ := ax.get (i := j) (d := xs[j]) (by simp [j1])
    obtain ⟨b', eb, qb⟩ := ay.get (i := j) (d := ys[j]) (by simp [j2])
    cases ea.symm.trans hxa
    cases eb.symm.trans hyb
    rw [List.drop_eq_getElem_cons j1, List.drop_eq_getElem_cons j2] at hw
    have en : Ext (O ++ [(D, Own.hold (HO.lst acc))]) H2 (upd H2 T (.tup [a, b])) := .new hT
    have hd1 := hd.mono en
    have kp1 : ∀ c o, Out (O ++ [(D, Own.hold (HO.lst acc))]) c → H1 c = some o → NT o → upd H2 T (.tup [a, b]) c = some o := fun c o x h t => en.keep c o x (kp c o x.hold_out h t) t
    refine ⟨T, _, rfl, .inl (.of upd_same), rfl, _, _, rfl, _, _, rfl, rfl, ?_, ?_⟩
    · rw [wipe_set (by simp), wipe_set (by simp), wipe_wipe]
    · unfold tYes
      dsimp only
      simp only [if_true]
      show tW We _ _ _
      have S2 : SlD (O ++ [(D, .hold (.lst acc))]) (upd H2 T (.tup [a, b])) (((L2.wipe σ [i1, i2]).set i1 (some a)).set i2 (some b)) (at2 i1 i2 ds xs[j] ys[j]) :=
        (hd1.sl.set i1 ((qa.more (fresh_none nD)).keep kp1)).set i2 ((qb.more (fresh_none nD)).keep kp1)
      refine ⟨_, _, _, S2, hd1.ow, hw, fun dy hy v H4 e4 q4 => ?_⟩
      have hd4 := hd1.mono e4
      refine ⟨acc, hd4.at, by omega, acc ++ [v], dacc ++ [dy], by simp; omega, hd4.app oD (.cons q4 .nil), fun c o hb h t => ?_, by simpa using hy⟩
      have bD : c ≠ D := ne_of_none h nD
      rw [upd_ne bD]
      exact e4.keep c o (fun q hq => by
        rcases List.mem_append.mp hq with z | z
        · exact hb q z
        · rw [List.mem_singleton.mp z]; exact bD) (en.keep c o (fun q hq => by
        rcases List.mem_append.mp hq with z | z
        · exact hb q z
        · rw [List.mem_singleton.mp z]; exact bD) (kp c o hb h t) t) t
  case hd =>
    rintro H2 ⟨acc, dacc, ha, hd, kp, hw⟩
    have hw' : P (.lst (dacc ++ [])) := each2_end rfl hw
    rw [List.append_nil] at hw'
    exact k _ hw' _ H2 (e1.trans ⟨kp, fun p hp _ => hd.ow.less.here p hp⟩) (.lst oD hd.at hd.al.less)
theorem we_lcz {X : Cx} {i1 i2 kk : Nat} {x1 x2 : Str} {p1 p2 tpos : Pos} {elt iter : Expr} {scope : Scope} {Wi : WI2} {We : WE} {pos : Pos} (hc : X.calm = true) (hN : X.N.Nodup) (hi : PI X (.Tuple [.Name x1 p1, .Name x2 p2] kk tpos) iter (tIW2 Wi)) (ok : BlkOk X.N X.env.scope scope [(x1, i1), (x2, i2)])
    (hg : ∀ (s : Shared) (H : Hp) (C : Addr) (cl : List (Str × Addr)) (fp : List Addr), PG (X.blk s H scope (compEnvC scope cl C X.env) fp) (.Tuple [.Name x1 p1, .Name x2 p2] kk tpos) (gTup X.K 2 (gCons (gName i1) (gCons (gName i2) gNil))))
    (he : ∀ (s : Shared) (H : Hp) (C : Addr) (cl : List (Str × Addr)) (fp : List Addr), PE (X.blk s H scope (compEnvC scope cl C X.env) fp) elt (tW We)) (hs : ∀ x, foldedSetIterable iter X.env x = pure x := by intro _; rfl) :
    PE X (.ListComp elt [⟨.Tuple [.Name x1 p1, .Name x2 p2] kk tpos, iter, [], 0⟩] scope pos) (tW (wLcZ i1 i2 Wi We)) :=
  PE.weak (pe_lc (own := [(x1, i1), (x2, i2)]) hc hN hi ok hg (fun _ _ _ _ _ => pts_nil) he hs) fun σ H Q h => lcz_red h
end DL

set_option maxHeartbeats 4000000
namespace DL
open PySem PySem.Spec PyProof.Rows L2
variable [TabCtx]
/-! ### a, b = a list; for a, b in a list of lists -/
def gUn2L (i1 i2 : Nat) (W : WE) : WS := fun ds N _ _ => W ds fun d => ∃ a b, d = .lst [a, b] ∧ N ((ds.set i1 (some a)).set i2 (some b))
def gFor2L (i1 i2 : Nat) (Wi : WI) (G : WS) : WS := fun ds N R Z => Wi ds fun xs => ∃ I : Nat → Sl → Prop, I 0 ds ∧ (∀ j x ds', xs[j]? = some x → I j ds' → ∃ a b, x = .lst [a, b] ∧ G ((ds'.set i1 (some a)).set i2 (some b)) (I (j + 1)) R Z) ∧ ∀ ds', I xs.length ds' → N ds'
section
variable {X : Cx} {i1 i2 kk : Nat} {x1 x2 : Str} {p1 p2 tpos pos : Pos} {e iter : Expr} {W : WE} {E : XK}
theorem ws_un2L (hc : X.calm = true) (h1 : PG X (.Name x1 p1) (gName i1)) (h2 : PG X (.Name x2 p2) (gName i2)) (he : PE X e (tW W)) (hs : swapsWithSole [.Tuple [.Name x1 p1, .Name x2 p2] kk tpos] e pos.line X.env = pure false := by rfl)
    (hw : swappedStores [.Tuple [.Name x1 p1, .Name x2 p2] kk tpos] e X.env = pure none := by rfl) : PS X (.Assign [.Tuple [.Name x1 p1, .Name x2 p2] kk tpos] e pos) (tSW E (gUn2L i1 i2 W)) :=
  PS.weak (ps_asg he (pg_lst (n := 2) hc (pgs_cons h1 (pgs_cons h2 pgs_nil))) hs hw) fun D σ H ⟨O, ds, N, R, Z, hS, hO, hG, hN, hR, hZ⟩ => ⟨O, ds, _, hS, hO, hG, fun d hd v H1 e1 q1 => by
    obtain ⟨a, b, rfl, hn⟩ := hd
    cases q1 with
    | lst o r al =>
      cases al with
      | cons qa al =>
        cases al with
        | cons qb al =>
          cases al
          exact ⟨_, _, rfl, .of r, rfl, _, _, rfl, _, _, rfl, rfl, hN _ hn _ _ e1 (((hS.mono e1).set i1 qa).set i2 qb)⟩⟩
theorem ws_for2L {body : List Stmt} {G : WS} {Wi : WI} (hp : PassesOwn (model X.prog X.w) X.A X.env X.xe) (hc : X.calm = true) (hi : PI X (.Tuple [.Name x1 p1, .Name x2 p2] kk tpos) iter (tIW Wi)) (h1 : PG X (.Name x1 p1) (gName i1)) (h2 : PG X (.Name x2 p2) (gName i2)) (hb : PSs X body (tSW E G))
    (hs : ∀ x, foldedSetIterable iter X.env x = pure x := by intro _; rfl) : PS X (.For (.Tuple [.Name x1 p1, .Name x2 p2] kk tpos) iter body [] pos) (tSW E (gFor2L i1 i2 Wi G)) :=
  PS.weak (ps_for hp hc hi (pg_lst (n := 2) hc (pgs_cons h1 (pgs_cons h2 pgs_nil))) hb hs) fun D σ H ⟨O, ds, N, R, Z, hS, hO, hG, hN, hR, hZ⟩ => ⟨O, ds, _, hS, hO, hG, fun xs ⟨I, h0, h1, h2⟩ J H1 e1 ⟨Gd, w, hGd⟩ => by
    refine for_it w (fun j σ2 H2 => ∃ ds', I j ds' ∧ SlD O H2 σ2 ds' ∧ Ext O H1 H2) ⟨ds, h0, hS.mono e1, .refl _ _⟩ (fun j σ2 H2 _ ⟨_, _, _, e2⟩ => hGd H2 e2.keep) ?_ ?_
    · rintro j x σ2 H2 H' hj ⟨ds', hI, hS2, e2⟩ ⟨rfl, d, hd, qd⟩
      have e3 := e1.trans e2
      obtain ⟨a, b, rfl, hg⟩ := h1 j d ds' hd hI
      have qd2 := qd.mono e2
      cases qd2 with
      | lst o r al =>
        cases al with
        | cons qa al =>
          cases al with
          | cons qb al =>
            cases al
            exact ⟨_, _, rfl, .of r, rfl, _, _, rfl, _, _, rfl, rfl, O, _, I (j + 1), R, Z, (hS2.set i1 qa).set i2 qb, hO.mono e3, hg, fun d3 h3 σ3 H3 e4 s3 => ⟨d3, h3, s3, e2.trans e4⟩,
              fun d h v H3 e4 q => hR d h v H3 (e3.trans e4) q, fun C d h dx v H3 e4 q => hZ C d h dx v H3 (e3.trans e4) q⟩
    · rintro σ2 H2 ⟨ds', hI, hS2, e2⟩
      exact hN ds' (h2 ds' hI) σ2 H2 (e1.trans e2) hS2⟩
end
/-! ### a def that hands back a new list -/
abbrev WSF := Sl → (List D → Prop) → Prop
def tSF (G : WSF) : TS := fun Dn σ H => ∃ (O : Ow) (ds : Sl) (R : List D → Prop), SlD O H σ ds ∧ OwnAll O H ∧ G ds R ∧ ∀ es, R es → ∀ p vs H', Out O p → Fresh H p → Ext O H H' → H' p = some (.lst vs) → DqAll (O ++ [(p, .hold (.lst vs))]) H' vs es → Dn.rt (.ref p) H'
def gSeqF (G : WS) (F : WSF) : WSF := fun ds R => G ds (fun ds' => F ds' R) (fun _ => False) fun _ _ => False
theorem Ext.fresh_of {O : Ow} {H H1 : Hp} {p : Addr} (e : Ext O H H1) (o : OwnAll O H) (op : Out O p) (n : Fresh H1 p) : Fresh H p := fun b u h t z => by
  subst z
  exact n b u (e.keep b u op h t) t rfl
def spFr (f : List D → (List D → Prop) → Prop) : Sp := fun vs H Q _ => ∃ (O : Ow) (es : List D) (P : List D → Prop), DqAll O H vs es ∧ OwnAll O H ∧ f es P ∧ ∀ ds, P ds → ∀ p us H', Out O p → Fresh H p → Ext O H H' → H' p = some (.lst us) → DqAll (O ++ [(p, .hold (.lst us))]) H' us ds → Q (.ref p) H'
section
variable {X : Cx} {st : Stmt} {rest : List Stmt} {e : Expr} {pos : Pos} {E : XK} {G : WS} {F : WSF} {W : WF}
theorem sf_ret (h : PE X e (tFW W)) : PSs X [.Return (some e) pos] (tSF W) := PSs.weak (pss_one (ps_ret h)) fun D σ H ⟨O, ds, R, hS, hO, hG, hR⟩ => ⟨O, ds, R, hS, hO, hG, fun es he p vs H' op fr e hp q => hR es he p vs H' op fr e hp q⟩
theorem sf_cons (h1 : PS X st (tSW E G)) (h2 : PSs X rest (tSF F)) : PSs X (st :: rest) (tSF (gSeqF G F)) :=
  PSs.weak (pss_cons h1 h2) fun D σ H ⟨O, ds, R, hS, hO, hG, hR⟩ => ⟨O, ds, _, _, _, hS, hO, hG, fun ds' hd σ' H' e1 s1 => ⟨O, ds', R, s1, hO.mono e1, hd, fun es he p vs H2 op fr e2 hp q => hR es he p vs H2 op (e1.fresh_of hO op fr) (e1.trans e2) hp q⟩, fun _ z => z.elim, fun _ _ z => z.elim⟩
end
section
variable {P : Program} {w : World} {K : PySem.W.Frag} {mg : Str → Option Value} {base : Heap}
theorem fn_okF {x qual : Str} {st : Stmt} {f : Addr} {fd : FuncData} {N ps : List Str} {k : Nat} {g : List D → (List D → Prop) → Prop} (F : Fun K x qual st f fd) (S : FnScope N ps (defScope st)) (len : ∀ es P, g es P → es.length = ps.length)
    (hbody : ∀ (cdv : Value) (A : Around) (outer : List Env) (s : Shared) (H : Hp) (E : XK), Room k (A.deeper (envOfC qual (defScope st) s.heap.objs.size f cdv)) →
      ∃ G, PSs (cxOf CX0 P w K mg base N qual (defScope st) f cdv A outer s H E).nox (defBody st) (tSF G) ∧ ∀ es P, g es P → G (startD N es) P) :
    FnOk P w K mg base CX0 (k + 1) f fd ps (spFr g) := by
  refine F.ok S (fun vs H Q E ⟨O, es, P, hq, hO, hg, _⟩ => by rw [hq.length]; exact len _ _ hg) (fun cdv A outer s H vs Q E hr ⟨O, es, P, hq, hO, hg, hP⟩ => ?_)
  obtain ⟨G, h1, h2⟩ := hbody cdv A outer s H E hr
  exact ⟨_, h1, O, startD N es, P, start_sl hq, hO, h2 es P hg, hP⟩
/-- a def whose code object is known -/
theorem fn_okC {x qual : Str} {st : Stmt} {f c : Addr} {fd : FuncData} {N ps : List Str} {k : Nat} {g : DFn} (F : Fun K x qual st f fd) (hc : fd.code = .ref c) (S : FnScope N ps (defScope st)) (len : ∀ es P, g es P → es.length = ps.length)
    (hbody : ∀ (A : Around) (outer : List Env) (s : Shared) (H : Hp) (E : XK), Room k (A.deeper (envOfC qual (defScope st) s.heap.objs.size f (.ref c))) →
      ∃ G, PSs (cxOf CX0 P w K mg base N qual (defScope st) f (.ref c) A outer s H E).nox (defBody st) (tSW (fun _ _ _ => False) G) ∧ ∀ es P, g es P → G (startD N es) (fun _ => P .non) P fun _ _ => False) :
    FnOk P w K mg base CX0 (k + 1) f fd ps (spD fun es P _ => g es P) := by
  obtain ⟨oc, od, kV, doc, pm, an, cdv, ct, osl, rfl, lk, hcd⟩ := F.ex
  have hc' : cdv = .ref c := hc
  subst hc'
  refine fn_of lk hcd S (fun vs H Q E ⟨O, es, P, Z, hq, hO, hg, _⟩ => by rw [hq.length]; exact len _ _ hg) fun A outer s H vs Q E hr ⟨O, es, P, Z, hq, hO, hg, hP, hZ⟩ => ?_
  obtain ⟨G, h1, h2⟩ := hbody A outer s H E hr
  exact ⟨_, h1.nox, O, startD N es, _, P, _, start_sl hq, hO, h2 es P hg, fun ds' hd σ' H' e1 _ => hP _ hd _ H' e1 .non, hP, fun _ _ z => z.elim⟩
end
section
variable {X : Cx} {k : Nat} {f : Addr} {fd : FuncData} {ps : List Str} {x : Str} {p pos : Pos} {e : Expr} {es : List Expr} {A : WA}
theorem fw_call {g : List D → (List D → Prop) → Prop} (F : FnOk X.prog X.w X.K X.mg X.base CX0 k f fd ps (spFr g)) (hr : Room k X.A) (hg : Gl X x) (hm : X.mg x = some (.ref f)) (hk : PySem.W.keepIn X.K (.ref f) = true) (hb : Binds X.K fd ps [])
    (ha : PA X (e :: es) (tAW A)) (hdb : (x == ("__debug__" : Str)) = false := by decide) (he : starEach (e :: es) X.env = (false, eval e X.env) :: starEach es X.env := by rfl) (hpl : (backTo pos (starEach es X.env)).any (·.1) = false := by rfl) :
    PE X (.Call (.Name x p) (e :: es) [] pos) (tFW fun ds P => A ds fun es => g es P) := PE.weak (pe_call F hr hg hm hk hb .nil pass0 ha hdb he hpl) fun σ H Q ⟨O, ds, P, hS, hO, hW, k⟩ => ⟨O, ds, _, hS, hO, hW, fun es he vs H1 e1 q1 => by
      show spFr g (vs ++ []) H1 Q _
      rw [List.append_nil]
      exact ⟨O, es, P, q1, hO.mono e1, he, fun ds hd p us H2 op fr e2 hp q => k ds hd p us H2 op (e1.fresh_of hO op fr) (e1.trans e2) hp q⟩⟩
end
/-! ### a new source of draws, for the rest of a block -/
mutual
def noS : D → Bool
  | .src _ => false
  | .lst xs => noSs xs
  | .tup xs => noSs xs
  | .exn _ _ t => noS t
  | .ins _ _ ds => noSs ds
  | .dct _ ds => noSs ds
  | _ => true
def noSs : List D → Bool
  | [] => true
  | d :: ds => noS d && noSs ds
end
theorem out_less {O : Ow} {a : Addr} {q : Addr × Own} (x : Out (O ++ [q]) a) : Out O a := fun p hp => x p (List.mem_append_left _ hp)
mutual
theorem Dq.lessS {O : Ow} {H : Hp} {p : Addr} : ∀ {v : V} {d : D}, Dq (O ++ [(p, .src)]) H v d → noS d = true → Dq O H v d
  | _, _, .non, _ => .non
  | _, _, .bl b, _ => .bl b
  | _, _, .int i, _ => .int i
  | _, _, .str x, _ => .str x
  | _, _, .lst x r a, n => .lst (out_less x) r (a.lessS (by unfold noS at n; exact n))
  | _, _, .tup x r a, n => .tup (out_less x) r (a.lessS (by unfold noS at n; exact n))
  | _, _, .src h, n => by unfold noS at n; cases n
  | _, _, .fn f, _ => .fn f
  | _, _, .exn x r a, n => .exn (out_less x) r (a.lessS (by unfold noS at n; exact n))
  | _, _, .sq h, _ => .sq (h.imp (fun z => ⟨out_less z.1, z.2⟩) id)
  | _, _, .ins x r a, n => .ins (out_less x) r (a.lessS (by unfold noS at n; exact n))
  | _, _, .dct x r a, n => .dct (out_less x) r (a.lessS (by unfold noS at n; exact n))
theorem DqAll.lessS {O : Ow} {H : Hp} {p : Addr} : ∀ {vs : List V} {ds : List D}, DqAll (O ++ [(p, .src)]) H vs ds → noSs ds = true → DqAll O H vs ds
  | _, _, .nil, _ => .nil
  | _, _, .cons a b, n => by
    unfold noSs at n
    obtain ⟨h1, h2⟩ := Bool.and_eq_true_iff.mp n
    exact .cons (a.lessS h1) (b.lessS h2)
end
def cleanO : Option D → Option D
  | some d => if noS d = true then some d else none
  | none => none
def cleanS (ds : Sl) : Sl := ds.map cleanO
theorem SlD.lessS {O : Ow} {H : Hp} {σ : L2.St} {ds : Sl} {p : Addr} (h : SlD (O ++ [(p, .src)]) H σ ds) : SlD O H σ (cleanS ds) :=
  ⟨by unfold cleanS; rw [List.length_map, h.len], fun i d hd => by
    unfold cleanS at hd
    rw [List.getElem?_map] at hd
    cases hi : ds[i]? with
    | none =>
      rw [hi] at hd
      cases hd
    | some o =>
      rw [hi] at hd
      cases o with
      | none => cases hd
      | some d' =>
        have hd' : (if noS d' = true then some d' else none) = some d := Option.some.inj hd
        split at hd'
        · rename_i n
          cases hd'
          obtain ⟨v, a, b⟩ := h.val i _ hi
          exact ⟨v, a, b.lessS n⟩
        · cases hd'⟩
theorem TabsOk.src {O : Ow} {p : Addr} (h : TabsOk O) : TabsOk (O ++ [(p, .src)]) :=
  ⟨fun t => (h.iff t).trans ⟨fun z => List.mem_append_left _ z, fun z => (List.mem_append.mp z).elim id fun z => (by cases List.mem_singleton.mp z)⟩, fun q u z => (List.mem_append.mp z).elim (h.held q u) fun z => (by cases List.mem_singleton.mp z)⟩
theorem OwnAll.src {O : Ow} {H : Hp} {p : Addr} {x y : Int} (h : OwnAll O H) (op : Out O p) (hp : H p = some (.lst [.int x, .int y])) (h0 : 0 ≤ y) (h1 : y < 2147483647) : OwnAll (O ++ [(p, .src)]) H :=
  ⟨fun q hq => (List.mem_append.mp hq).elim (h.here q) fun z => by
      rw [List.mem_singleton.mp z]
      exact ⟨_, hp, x, y, rfl, h0, h1⟩,
    fun q hq r hr e => by
      rcases List.mem_append.mp hq with z | z <;> rcases List.mem_append.mp hr with z' | z'
      · exact h.uq q z r z' e
      · rw [List.mem_singleton.mp z'] at e
        exact absurd e.symm (op q z)
      · rw [List.mem_singleton.mp z] at e
        exact absurd e (op r z')
      · rw [List.mem_singleton.mp z, List.mem_singleton.mp z'], h.tabs.src⟩
theorem Ext.dropS {O : Ow} {H0 H H' : Hp} {p : Addr} (e : Ext (O ++ [(p, .src)]) H H') (e0 : Ext O H0 H) (n : Fresh H0 p) : Ext O H0 H' :=
  ⟨fun b u hb h t => e.keep b u (fun q hq => (List.mem_append.mp hq).elim (hb q) fun z => by
      rw [List.mem_singleton.mp z]
      exact n b u h t) (e0.keep b u hb h t) t, fun q hq h => e.own q (List.mem_append_left _ hq) (e0.own q hq h)⟩
def gSrc (i : Nat) (W : WF) (G : WS) : WS := fun ds N R Z => W ds fun es => ∃ x y : Int, es = [.int x, .int y] ∧ 0 ≤ y ∧ y < 2147483647 ∧ ∀ p, G (ds.set i (some (.src p))) (fun ds' => N (cleanS ds')) (fun d => noS d = true ∧ R d) fun C d => noS d = true ∧ Z C d
theorem wss_src {X : Cx} {i : Nat} {x : Str} {e : Expr} {rest : List Stmt} {W : WF} {G : WS} {E : XK} {pos pos' : Pos} (hN : X.N.Nodup) (hi : X.N[i]? = some x) (hx : Loc X.env.scope x) (he : PE X e (tFW W)) (hr : PSs X rest (tSW E G)) (hs : swapsWith e (some (.Name x pos')) pos.line X.env = pure false := by rfl)
    (hf : X.fn x = true ∨ X.env.scope.names.lookup x = some .local := by first | exact .inl rfl | exact .inr rfl) : PSs X (.Assign [.Name x pos'] e pos :: rest) (tSW E (gSrc i W G)) :=
  PSs.weak (pss_cons (ps_set hN hi hx he hs hf) hr) fun D σ H ⟨O, ds, N, R, Z, hS, hO, hG, hNx, hR, hZ⟩ => ⟨O, ds, _, hS, hO, hG, fun es hes p vs H' op fr e1 hp hq => by
    obtain ⟨x, y, rfl, h0, h1, hg⟩ := hes
    have hq' := hq.less
    have ev : vs = [.int x, .int y] := by
      cases hq' with
      | cons qa q =>
        cases q with
        | cons qb q =>
          cases q
          cases qa
          cases qb
          rfl
    subst ev
    have O2 : OwnAll (O ++ [(p, .src)]) H' := (hO.mono e1).src op hp h0 h1
    have kk : ∀ b o, Out (O ++ [(p, Own.src)]) b → H b = some o → NT o → H' b = some o := fun b o x hh t => e1.keep b o (out_less x) hh t
    have S2 : SlD (O ++ [(p, .src)]) H' (σ.set i (some (.ref p))) (ds.set i (some (.src p))) := ((hS.more fr).keep kk).set i (.src (by simp))
    exact ⟨_, _, _, _, _, S2, O2, hg p, fun ds' hd σ2 H2 e2 s2 => hNx _ hd σ2 H2 (e2.dropS e1 fr) s2.lessS, fun d ⟨n, hd⟩ v H2 e2 q => hR d hd v H2 (e2.dropS e1 fr) (q.lessS n),
      fun C d ⟨n, hd⟩ dx v H2 e2 ox hx q => hZ C d hd dx v H2 (e2.dropS e1 fr) (out_less ox) hx (q.lessS n)⟩⟩
end DL

set_option maxHeartbeats 4000000
namespace DL
open PySem PySem.Spec PyProof.Rows L2
variable [TabCtx]
/-! ### expressions that may raise, within others -/
def wzE (W : WE) : WZ := fun ds P _ => W ds P
def wzOpL (f : DOp) (B : WZ) (Wb : WE) : WZ := fun ds P Z => B ds (fun x => Wb ds fun y => f x y P) Z
def wzIf (T : WT) (Ba Bb : WZ) : WZ := fun ds P Z => T ds fun b => if b = true then Ba ds P Z else Bb ds P Z
def gzRet (B : WZ) : WS := fun ds _ R Z => B ds R Z
def gzSet (i : Nat) (B : WZ) : WS := fun ds N _ Z => B ds (fun d => N (ds.set i (some d))) Z
def gzDrop (B : WZ) : WS := fun ds N _ Z => B ds (fun _ => N ds) Z
section
variable {X : Cx} {a b c : Expr} {B Ba Bb : WZ} {W : WX} {Wa Wb : WE} {T : WT} {pos : Pos} {E : XK}
theorem wz_e (h : PE X a (tW Wa)) : PE X a (tZW W (wzE Wa)) := PE.weak h fun σ H Q ⟨O, ds, P, Z, hS, hO, hB, hP, hZ⟩ => ⟨O, ds, P, hS, hO, hB, hP⟩
theorem wz_opL {op : Operator} {f : DOp} (ho : OpR X (binaryOp op) (rD f)) (ha : PE X a (tZW W B)) (hb : PE X b (tW Wb)) : PE X (.BinOp a op b pos) (tZW W (wzOpL f B Wb)) :=
  PE.weak (pe_op ho ha hb) fun σ H Q ⟨O, ds, P, Z, hS, hO, hB, hP, hZ⟩ =>
    ⟨O, ds, _, Z, hS, hO, hB, fun dx hx v H1 e1 q1 => ⟨O, ds, _, hS.mono e1, hO.mono e1, hx, fun dy hy u H2 e2 q2 =>
      ⟨O, dx, dy, P, q1.mono e2, q2, (hO.mono e1).mono e2, hy, fun d hd w H3 e3 q3 => hP d hd w H3 ((e1.trans e2).trans e3) q3⟩⟩, hZ⟩
theorem wz_if (hc : PT X c (tTW T)) (ha : PE X a (tZW W Ba)) (hb : PE X b (tZW W Bb)) : PE X (.IfExp c a b pos) (tZW W (wzIf T Ba Bb)) :=
  PE.weak (pe_ifExp hc ha hb) fun σ H Q ⟨O, ds, P, Z, hS, hO, hB, hP, hZ⟩ => ⟨O, ds, _, hS, hO, hB, fun b hb H1 e1 => by
    have hz : ∀ C t, Z C t → ∀ dx v H', Ext O H1 H' → Out O dx → H' dx = some (.xd [("told", v)]) → Dq O H' v t → W (.ref C) (some dx) σ H' := fun C t z dx v H' e2 => hZ C t z dx v H' (e1.trans e2)
    cases b with
    | true =>
      rw [if_pos rfl] at hb
      show tZW W Ba σ H1 Q
      exact ⟨O, ds, P, Z, hS.mono e1, hO.mono e1, hb, fun d hd w H2 e2 q2 => hP d hd w H2 (e1.trans e2) q2, hz⟩
    | false =>
      rw [if_neg Bool.false_ne_true] at hb
      show tZW W Bb σ H1 Q
      exact ⟨O, ds, P, Z, hS.mono e1, hO.mono e1, hb, fun d hd w H2 e2 q2 => hP d hd w H2 (e1.trans e2) q2, hz⟩⟩
theorem ws_zret (h : PE X a (tZW (fun cls d _ H => E cls d H) B)) : PS X (.Return (some a) pos) (tSW E (gzRet B)) :=
  PS.weak (ps_ret h) fun D σ H ⟨O, ds, N, R, Z, hS, hO, hG, hN, hR, hZ⟩ => ⟨O, ds, R, Z, hS, hO, hG, hR, fun C t z dx v H' e1 ox hx q => hZ C t z dx v H' e1 ox hx q⟩
theorem ws_zdrop (h : PE X a (tZW (fun cls d _ H => E cls d H) B)) (hs : swapsWith a none pos.line X.env = pure false := by rfl) : PS X (.Expr a pos) (tSW E (gzDrop B)) :=
  PS.weak (ps_expr h hs) fun D σ H ⟨O, ds, N, R, Z, hS, hO, hG, hN, hR, hZ⟩ => ⟨O, ds, _, Z, hS, hO, hG, fun d hd v H1 e1 q1 => hN _ hd σ H1 e1 (hS.mono e1), fun C t z dx v H' e1 ox hx q => hZ C t z dx v H' e1 ox hx q⟩
theorem ws_zset {i : Nat} {x : Str} {pos' : Pos} (hN : X.N.Nodup) (hi : X.N[i]? = some x) (hx : Loc X.env.scope x) (h : PE X a (tZW (fun cls d _ H => E cls d H) B)) (hs : swapsWith a (some (.Name x pos')) pos.line X.env = pure false := by rfl)
    (hf : X.fn x = true ∨ X.env.scope.names.lookup x = some .local := by first | exact .inl rfl | exact .inr rfl) : PS X (.Assign [.Name x pos'] a pos) (tSW E (gzSet i B)) :=
  PS.weak (ps_set hN hi hx h hs hf) fun D σ H ⟨O, ds, N, R, Z, hS, hO, hG, hN, hR, hZ⟩ => ⟨O, ds, _, Z, hS, hO, hG, fun d hd v H1 e1 q1 => hN _ hd _ H1 e1 ((hS.mono e1).set i q1), fun C t z dx v H' e1 ox hx q => hZ C t z dx v H' e1 ox hx q⟩
end
/-! ### a list or a tuple gone through -/
def seqOf : D → Option (List D)
  | .lst xs => some xs
  | .tup xs => some xs
  | _ => none
theorem seqOf_lst {xs : List D} : seqOf (.lst xs) = some xs := rfl
theorem seqOf_tup {xs : List D} : seqOf (.tup xs) = some xs := rfl
def wiSeq (W : WE) : WI := fun ds P => W ds fun d => ∃ xs, seqOf d = some xs ∧ P xs
section
variable {X : Cx} {tg e : Expr} {W : WE}
theorem pi_any {te : TE} (he : PE X e te) : PI X tg e (fun σ H R => te σ H fun x H1 => ∃ a, x = .ref a ∧ ((∃ xs, SqL X.K H1 a xs ∧ R (Itl X.K a) H1) ∨ (∃ xs, SqT X.K H1 a xs ∧ R (Itt X.K a) H1))) := by
  refine ⟨fun pins s σ H R I h => ?_⟩
  refine thn (he.run pins s σ H _ I h) fun v s1 ⟨x, H1, I1, r1, q1⟩ => ?_
  obtain ⟨a, e, q⟩ := q1
  subst e
  cases r1
  have fin : ∀ b, b ∈ [s1.heap.objs.size] → _ := fun b hb => by
    have e : b = s1.heap.objs.size := by simpa using hb
    subst e
    exact I1.fpOk (Nat.le_refl _) (I1.hok.fresh (Nat.le_refl _))
  rcases q with ⟨xs, hq, q⟩ | ⟨xs, hq, q⟩
  · obtain ⟨its, rv, p, hz⟩ := I1.list hq
    exact wpAny_pyIter_list p.isList ⟨s1.heap.objs.size, [s1.heap.objs.size], _, _, H1, rfl, I1.kept (t' := s1.toks) fun b o e => Heap.get?_push_of_some _ e, turn_list a _, ⟨_, Heap.get?_push_size _ rfl, rfl, rfl⟩, fin, q⟩
  · obtain ⟨its, rv, p, hz⟩ := I1.tuple hq
    exact wpAny_pyIter_tuple (show s1.heap.IsTuple a its.toArray from p) ⟨s1.heap.objs.size, [s1.heap.objs.size], _, _, H1, rfl, I1.kept (t' := s1.toks) fun b o e => Heap.get?_push_of_some _ e, turn_tuple a _, ⟨_, Heap.get?_push_size _ rfl, rfl, rfl⟩, fin, q⟩
theorem wi_sq (h : PE X e (tW W)) : PI X tg e (tIW (wiSeq W)) := PI.weak (pi_any h) fun σ H R ⟨O, ds, P, hS, hO, hW, k⟩ => ⟨O, ds, _, hS, hO, hW, fun d hd v H1 e1 q1 => by
  obtain ⟨xs, hx, hp⟩ := hd
  cases q1 <;> simp only [seqOf, reduceCtorEq, Option.some.injEq] at hx
  · rename_i a vs ds' x r q
    subst hx
    refine ⟨a, rfl, .inl ⟨vs, .of r, k _ hp _ H1 e1 ⟨fun H => SqL X.K H a vs, ?_, fun H2 k2 => .of (k2 _ _ x r (by intro ps z; cases z))⟩⟩⟩
    rw [← q.length]
    exact walk_list.mono (fun H z => z) fun i H x H' hi z y => by
      obtain ⟨y1, y2⟩ := y
      have hi' : i < ds'.length := by rw [← q.length]; exact hi
      obtain ⟨v, e1, q1⟩ := q.get (i := i) (d := ds'[i]) (by simp [hi'])
      rw [y2] at e1
      cases e1
      exact ⟨y1, _, by simp [hi'], q1⟩
  · rename_i a vs ds' x r q
    subst hx
    refine ⟨a, rfl, .inr ⟨vs, .inl r, k _ hp _ H1 e1 ⟨fun H => SqT X.K H a vs, ?_, fun H2 k2 => .inl (rd_keep k2 x r)⟩⟩⟩
    rw [← q.length]
    exact walk_tup.mono (fun H z => z) fun i H x H' hi z y => by
      obtain ⟨y1, y2⟩ := y
      have hi' : i < ds'.length := by rw [← q.length]; exact hi
      obtain ⟨v, e1, q1⟩ := q.get (i := i) (d := ds'[i]) (by simp [hi'])
      rw [y2] at e1
      cases e1
      exact ⟨y1, _, by simp [hi'], q1⟩⟩
end
end DL

set_option maxHeartbeats 4000000
/-! The mathematics of k19: kept moments and their reaches, over lists of whole numbers. -/
namespace K19
def maxI : List Int → Int
  | [] => 0
  | x :: xs => xs.foldl (fun a b => if b > a then b else a) x
def minI : List Int → Int
  | [] => 0
  | x :: xs => xs.foldl (fun a b => if b < a then b else a) x
theorem foldl_max (xs : List Int) : ∀ a : Int, (xs.foldl (fun a b => if b > a then b else a) a = a ∨ xs.foldl (fun a b => if b > a then b else a) a ∈ xs) ∧ a ≤ xs.foldl (fun a b => if b > a then b else a) a ∧ ∀ y ∈ xs, y ≤ xs.foldl (fun a b => if b > a then b else a) a := by
  induction xs with
  | nil => intro a; exact ⟨.inl rfl, Int.le_refl _, fun _ h => nomatch h⟩
  | cons x xs ih =>
    intro a
    obtain ⟨h1, h2, h3⟩ := ih (if x > a then x else a)
    simp only [List.foldl_cons]
    refine ⟨?_, ?_, ?_⟩
    · rcases h1 with h1 | h1
      · rw [h1]
        split
        · exact .inr List.mem_cons_self
        · exact .inl rfl
      · exact .inr (List.mem_cons_of_mem _ h1)
    · exact Int.le_trans (by split <;> omega) h2
    · intro y hy
      rcases List.mem_cons.mp hy with rfl | hy
      · exact Int.le_trans (by split <;> omega) h2
      · exact h3 y hy
theorem foldl_min (xs : List Int) : ∀ a : Int, (xs.foldl (fun a b => if b < a then b else a) a = a ∨ xs.foldl (fun a b => if b < a then b else a) a ∈ xs) ∧ xs.foldl (fun a b => if b < a then b else a) a ≤ a ∧ ∀ y ∈ xs, xs.foldl (fun a b => if b < a then b else a) a ≤ y := by
  induction xs with
  | nil => intro a; exact ⟨.inl rfl, Int.le_refl _, fun _ h => nomatch h⟩
  | cons x xs ih =>
    intro a
    obtain ⟨h1, h2, h3⟩ := ih (if x < a then x else a)
    simp only [List.foldl_cons]
    refine ⟨?_, ?_, ?_⟩
    · rcases h1 with h1 | h1
      · rw [h1]
        split
        · exact .inr List.mem_cons_self
        · exact .inl rfl
      · exact .inr (List.mem_cons_of_mem _ h1)
    · exact Int.le_trans h2 (by split <;> omega)
    · intro y hy
      rcases List.mem_cons.mp hy with rfl | hy
      · exact Int.le_trans h2 (by split <;> omega)
      · exact h3 y hy
theorem maxI_mem {xs : List Int} (h : xs ≠ []) : maxI xs ∈ xs := by
  cases xs with
  | nil => exact absurd rfl h
  | cons x xs =>
    rcases (foldl_max xs x).1 with e | e
    · rw [show maxI (x :: xs) = x from e]; exact List.mem_cons_self
    · exact List.mem_cons_of_mem _ e
theorem maxI_le {xs : List Int} {y : Int} (h : y ∈ xs) : y ≤ maxI xs := by
  cases xs with
  | nil => cases h
  | cons x xs =>
    rcases List.mem_cons.mp h with rfl | h
    · exact (foldl_max xs y).2.1
    · exact (foldl_max xs x).2.2 y h
theorem minI_mem {xs : List Int} (h : xs ≠ []) : minI xs ∈ xs := by
  cases xs with
  | nil => exact absurd rfl h
  | cons x xs =>
    rcases (foldl_min xs x).1 with e | e
    · rw [show minI (x :: xs) = x from e]; exact List.mem_cons_self
    · exact List.mem_cons_of_mem _ e
theorem minI_le {xs : List Int} {y : Int} (h : y ∈ xs) : minI xs ≤ y := by
  cases xs with
  | nil => cases h
  | cons x xs =>
    rcases List.mem_cons.mp h with rfl | h
    · exact (foldl_min xs y).2.1
    · exact (foldl_min xs x).2.2 y h
theorem maxI_eq {xs : List Int} {m : Int} (h : m ∈ xs) (l : ∀ y ∈ xs, y ≤ m) : maxI xs = m := Int.le_antisymm (l _ (maxI_mem (List.ne_nil_of_mem h))) (maxI_le h)
theorem minI_eq {xs : List Int} {m : Int} (h : m ∈ xs) (l : ∀ y ∈ xs, m ≤ y) : minI xs = m := Int.le_antisymm (minI_le h) (l _ (minI_mem (List.ne_nil_of_mem h)))
def gapsI : List Int → List Int
  | x :: y :: r => (y - x) :: gapsI (y :: r)
  | _ => []
def lastI : List Int → Int
  | [] => 0
  | [x] => x
  | _ :: y :: r => lastI (y :: r)
def headI : List Int → Int
  | [] => 0
  | x :: _ => x
def onL (last : Int) (ns : List Int) : List Int := (last - lastI ns) :: (gapsI ns).map (fun g => g - 1)
def bothL (last : Int) (ns : List Int) : List Int := headI ns :: (last - lastI ns) :: (gapsI ns).map (fun g => g / 2)
def goodI (last : Int) : Int → Int → List Int → Bool
  | _, _, [] => true
  | low, high, x :: r => decide (low ≤ x) && decide (x ≤ high) && goodI last (x + 1) last r
/-! steps of even length -/
def prog (a c : Int) : Nat → List Int
  | 0 => []
  | n + 1 => a :: prog (a + c) c n
theorem prog_map (c : Int) : ∀ (n : Nat) (a : Int), (List.range n).map (fun (k : Nat) => a + (k : Int) * c) = prog a c n := by
  intro n
  induction n with
  | zero => intro a; rfl
  | succ n ih =>
    intro a
    rw [List.range_succ_eq_map, List.map_cons, List.map_map, prog, ← ih (a + c)]
    congr 1
    · simp
    · apply List.map_congr_left
      intro k _
      simp only [Function.comp, Nat.succ_eq_add_one, Int.natCast_add, Int.add_mul]
      omega
theorem prog_len (c : Int) : ∀ (n : Nat) (a : Int), (prog a c n).length = n := by
  intro n
  induction n with
  | zero => intro a; rfl
  | succ n ih => intro a; rw [prog, List.length_cons, ih]
theorem filter_range (m : Nat) : ∀ n : Nat, m ≤ n → (List.range n).filter (fun k => decide (k < m)) = List.range m := by
  intro n
  induction n with
  | zero => intro h; rw [Nat.le_zero.mp h]; rfl
  | succ n ih =>
    intro h
    rw [List.range_succ, List.filter_append]
    by_cases e : m = n + 1
    · subst e
      have : (List.range n).filter (fun k => decide (k < n + 1)) = List.range n := List.filter_eq_self.mpr fun k hk => by
        have := List.mem_range.mp hk
        simp; omega
      rw [this]
      simp [List.range_succ]
    · rw [ih (by omega)]
      simp; omega
/-- cut off at room -/
def clip (room : Int) (xs : List Int) : List Int := xs.map fun x => if room < x then room else x
theorem clip_len (room : Int) (xs : List Int) : (clip room xs).length = xs.length := List.length_map ..
theorem prog_good {last c : Int} (hc : 1 ≤ c) : ∀ (n : Nat) (a low high : Int), low ≤ a → a ≤ high → a + (n : Int) * c ≤ last → goodI last low high (prog a c (n + 1)) = true := by
  intro n
  induction n with
  | zero => intro a low high h1 h2 _; simp [prog, goodI, h1, h2]
  | succ n ih =>
    intro a low high h1 h2 h3
    have e : ((n + 1 : Nat) : Int) * c = (n : Int) * c + c := by rw [Int.natCast_add, Int.add_mul]; omega
    have hn : 0 ≤ (n : Int) * c := Int.mul_nonneg (by omega) (by omega)
    rw [prog, goodI, ih (a + c) (a + 1) last (by omega) (by omega) (by omega)]
    simp [h1, h2]
theorem prog_last (c : Int) : ∀ (n : Nat) (a : Int), lastI (prog a c (n + 1)) = a + (n : Int) * c := by
  intro n
  induction n with
  | zero => intro a; simp [prog, lastI]
  | succ n ih =>
    intro a
    have := ih (a + c)
    rw [prog, prog, lastI, ← prog, this, Int.natCast_add, Int.add_mul]
    omega
theorem prog_gaps (c : Int) : ∀ (n : Nat) (a : Int), ∀ g ∈ gapsI (prog a c n), g = c := by
  intro n
  induction n with
  | zero => intro a g h; cases h
  | succ n ih =>
    intro a g h
    cases n with
    | zero => simp [prog, gapsI] at h
    | succ n =>
      rw [prog, prog, gapsI, ← prog] at h
      rcases List.mem_cons.mp h with rfl | h
      · omega
      · exact ih _ _ h
theorem even_on_ok {room q : Int} (hr : 0 ≤ room) (hq : 1 ≤ q) (h1 : room / q = 0 → room = q - 1) :
    goodI room 0 0 (prog 0 q (room / q + 1).toNat) = true ∧ maxI (onL room (prog 0 q (room / q + 1).toNat)) = q - 1 := by
  have hd : 0 ≤ room / q := Int.ediv_nonneg hr (by omega)
  obtain ⟨n, hn⟩ : ∃ n : Nat, room / q = (n : Int) := ⟨(room / q).toNat, by omega⟩
  have e : (room / q + 1).toNat = n + 1 := by omega
  have hm : (n : Int) * q ≤ room := by rw [← hn]; exact Int.ediv_mul_le room (by omega)
  have hm2 : room < (n : Int) * q + q := by
    have := Int.lt_ediv_add_one_mul_self room (show (0 : Int) < q by omega)
    rw [hn, Int.add_mul] at this
    omega
  rw [e]
  refine ⟨prog_good hq n 0 0 0 (by omega) (by omega) (by omega), ?_⟩
  unfold onL
  rw [prog_last]
  cases n with
  | zero =>
    have := h1 (by rw [hn]; rfl)
    simp [prog, gapsI, maxI]
    omega
  | succ n =>
    refine maxI_eq (List.mem_cons_of_mem _ (List.mem_map.mpr ⟨q, ?_, rfl⟩)) fun y hy => ?_
    · rw [prog, prog, gapsI]
      exact List.mem_cons.mpr (.inl (by omega))
    · rcases List.mem_cons.mp hy with rfl | hy
      · omega
      · obtain ⟨g, hg, rfl⟩ := List.mem_map.mp hy
        rw [prog_gaps _ _ _ _ hg]
        omega
theorem clip_good {room near : Int} (hn : 0 ≤ near) : ∀ (n : Nat) (a low high : Int), low ≤ room → low ≤ a → (if room < a then room else a) ≤ high → a + (n : Int) * (2 * near + 1) ≤ room + near → goodI room low high (clip room (prog a (2 * near + 1) (n + 1))) = true := by
  intro n
  induction n with
  | zero =>
    intro a low high h0 h1 h2 _
    simp only [prog, clip, List.map_cons, List.map_nil, goodI, Bool.and_true, Bool.and_eq_true, decide_eq_true_eq]
    exact ⟨by split <;> omega, h2⟩
  | succ n ih =>
    intro a low high h0 h1 h2 h3
    have e : ((n + 1 : Nat) : Int) * (2 * near + 1) = (n : Int) * (2 * near + 1) + (2 * near + 1) := by rw [Int.natCast_add, Int.add_mul]; omega
    have hp : 0 ≤ (n : Int) * (2 * near + 1) := Int.mul_nonneg (by omega) (by omega)
    have ha : a < room := by omega
    have := ih (a + (2 * near + 1)) (a + 1) room (by omega) (by omega) (by split <;> omega) (by omega)
    rw [show clip room (prog a (2 * near + 1) (n + 1 + 1)) = a :: clip room (prog (a + (2 * near + 1)) (2 * near + 1) (n + 1)) from by
      simp only [prog, clip, List.map_cons]
      rw [if_neg (by omega)]]
    rw [if_neg (by omega)] at h2
    rw [goodI, this]
    simp [h1, h2]
theorem clip_last (room c : Int) : ∀ (n : Nat) (a : Int), lastI (clip room (prog a c (n + 1))) = if room < a + (n : Int) * c then room else a + (n : Int) * c := by
  intro n
  induction n with
  | zero => intro a; simp [prog, clip, lastI]
  | succ n ih =>
    intro a
    have := ih (a + c)
    rw [show clip room (prog a c (n + 1 + 1)) = (if room < a then room else a) :: clip room (prog (a + c) c (n + 1)) from rfl]
    rw [show clip room (prog (a + c) c (n + 1)) = (if room < a + c then room else a + c) :: clip room (prog (a + c + c) c n) from rfl, lastI]
    rw [show (if room < a + c then room else a + c) :: clip room (prog (a + c + c) c n) = clip room (prog (a + c) c (n + 1)) from rfl, this, Int.natCast_add, Int.add_mul]
    simp only [Int.natCast_one, Int.one_mul]
    rw [show a + c + (n : Int) * c = a + ((n : Int) * c + c) from by omega]
theorem clip_gaps {room c : Int} (hc : 0 ≤ c) : ∀ (n : Nat) (a : Int), ∀ g ∈ gapsI (clip room (prog a c n)), g ≤ c := by
  intro n
  induction n with
  | zero => intro a g h; cases h
  | succ n ih =>
    intro a g h
    cases n with
    | zero => simp [prog, clip, gapsI] at h
    | succ n =>
      rw [show clip room (prog a c (n + 1 + 1)) = (if room < a then room else a) :: (if room < a + c then room else a + c) :: clip room (prog (a + c + c) c n) from rfl, gapsI] at h
      rcases List.mem_cons.mp h with rfl | h
      · split <;> split <;> omega
      · exact ih (a + c) _ h
theorem even_both_ok {room near : Int} (hr : 0 ≤ room) (hn : 0 ≤ near) (h : near ≤ room) :
    goodI room 0 room (clip room (prog near (2 * near + 1) (room / (2 * near + 1) + 1).toNat)) = true ∧ maxI (bothL room (clip room (prog near (2 * near + 1) (room / (2 * near + 1) + 1).toNat))) = near := by
  have hd : 0 ≤ room / (2 * near + 1) := Int.ediv_nonneg hr (by omega)
  obtain ⟨n, hn'⟩ : ∃ n : Nat, room / (2 * near + 1) = (n : Int) := ⟨(room / (2 * near + 1)).toNat, by omega⟩
  have e : (room / (2 * near + 1) + 1).toNat = n + 1 := by omega
  have hm : (n : Int) * (2 * near + 1) ≤ room := by rw [← hn']; exact Int.ediv_mul_le room (by omega)
  have hm2 : room < (n : Int) * (2 * near + 1) + (2 * near + 1) := by
    have := Int.lt_ediv_add_one_mul_self room (show (0 : Int) < 2 * near + 1 by omega)
    rw [hn', Int.add_mul] at this
    omega
  rw [e]
  refine ⟨clip_good hn n near 0 room hr hn (by split <;> omega) (by omega), ?_⟩
  unfold bothL
  rw [clip_last]
  have hh : headI (clip room (prog near (2 * near + 1) (n + 1))) = near := by
    show (if room < near then room else near) = near
    rw [if_neg (by omega)]
  rw [hh]
  refine maxI_eq List.mem_cons_self fun y hy => ?_
  rcases List.mem_cons.mp hy with rfl | hy
  · omega
  rcases List.mem_cons.mp hy with rfl | hy
  · split <;> omega
  · obtain ⟨g, hg, rfl⟩ := List.mem_map.mp hy
    have := clip_gaps (room := room) (show 0 ≤ 2 * near + 1 by omega) _ _ _ hg
    omega
/-- of the least reach: q = (room + some) / some -/
theorem q_facts {room some : Int} (hr : 0 ≤ room) (hs : 1 ≤ some) : 1 ≤ (room + some) / some ∧ (room + some) / some ≤ room + 1 ∧ room / ((room + some) / some) + 1 ≤ some ∧ (room / ((room + some) / some) = 0 → room = (room + some) / some - 1) := by
  have e : (room + some) / some = room / some + 1 := by
    rw [Int.add_ediv_of_dvd_right (Int.dvd_refl some), Int.ediv_self (by omega)]
  rw [e]
  have h1 : 0 ≤ room / some := Int.ediv_nonneg hr (by omega)
  have h2 : room / some ≤ room := Int.ediv_le_self _ hr
  have h3 : room < (room / some + 1) * some := Int.lt_ediv_add_one_mul_self room (by omega)
  refine ⟨by omega, by omega, ?_, fun z => ?_⟩
  · have : room / (room / some + 1) < some := Int.ediv_lt_of_lt_mul (by omega) (by rw [Int.mul_comm]; exact h3)
    omega
  · have : room < room / some + 1 := by
      rcases Int.lt_or_le room (room / some + 1) with k | k
      · exact k
      · have := Int.le_ediv_of_mul_le (a := 1) (b := room) (show 0 < room / some + 1 by omega) (by omega)
        omega
    omega
theorem near_facts {room some : Int} (hr : 0 ≤ room) (hs : 1 ≤ some) : 0 ≤ (room + some) / some / 2 ∧ (room + some) / some / 2 ≤ room ∧ room / (2 * ((room + some) / some / 2) + 1) + 1 ≤ some ∧ (room + some) / some / 2 = (room + some) / (2 * some) := by
  obtain ⟨h1, h2, h3, h4⟩ := q_facts hr hs
  have e2 : (room + some) / some / 2 = (room + some) / (2 * some) := by
    rw [Int.ediv_ediv_of_nonneg (by omega), Int.mul_comm]
  refine ⟨by omega, by omega, ?_, e2⟩
  generalize hq : (room + some) / some = q at *
  have hle : q ≤ 2 * (q / 2) + 1 := by omega
  have : room / (2 * (q / 2) + 1) ≤ room / q := by
    apply Int.le_ediv_of_mul_le (by omega)
    have a1 := Int.ediv_mul_le room (b := 2 * (q / 2) + 1) (by omega)
    have a0 : 0 ≤ room / (2 * (q / 2) + 1) := Int.ediv_nonneg hr (by omega)
    have a2 : room / (2 * (q / 2) + 1) * q ≤ room / (2 * (q / 2) + 1) * (2 * (q / 2) + 1) := Int.mul_le_mul_of_nonneg_left hle a0
    omega
  omega
/-! the law's own reckoning -/
def stepsI (t : Int) (some : List Int) (both : Bool) : List Int := if both then some.map (fun o => if t - o < 0 then -(t - o) else t - o) else (some.filter fun o => decide (o ≤ t)).map fun o => t - o
def farI (last : Nat) (some : List Int) (both : Bool) : Int := (List.range (last + 1)).foldl (fun m (t : Nat) => let s := minI (stepsI t some both); if s > m then s else m) 0
def choices0 (last many : Nat) : List (List Int) := (List.range (last + 1)).foldl (fun lots (t : Nat) => lots ++ (lots.filter fun l => decide ((l.length : Int) < many)).map fun l => l ++ [(t : Int)]) [[]]
def choicesI (last many : Nat) : List (List Int) := (choices0 last many).filter fun l => !l.isEmpty
def basedI (lot : List Int) : List Int := 0 :: lot.filter fun o => decide (o > 0)
def lotOk (last : Nat) (lot : List Int) : Bool := !lot.isEmpty && decide (lot.length ≤ 9) && goodI last 0 last lot && decide (maxI (bothL last lot) = farI last lot true) && goodI last 0 0 (basedI lot) && decide (maxI (onL last (basedI lot)) = farI last (basedI lot) false)
def caseOk (last many : Nat) : Bool := (choicesI last many).all (lotOk last) && decide ((choicesI last many).length ≤ 1000) && !(choicesI last many).isEmpty &&
  !((choicesI last many).filter fun l => decide (headI l = 0)).isEmpty &&
  decide (minI (((choicesI last many).filter fun l => decide (headI l = 0)).map fun l => farI last l false) = ((last : Int) + many) / many - 1) &&
  decide (minI ((choicesI last many).map fun l => farI last l true) = (((last : Int) + many) / many - 1 + 1) / 2)
theorem all_ok : ∀ last ∈ List.range 9, ∀ many ∈ [1, 2, 3, 4], caseOk last many = true := by decide +kernel
end K19

set_option maxHeartbeats 2000000
namespace K19
open PySem PySem.Spec PyProof.Rows L2 DL
def top (i : Nat) : Stmt := PySem.Challenge.pw_plainmoment_k19_whole_reaches_of_kept.main.body.getD i (.Pass ⟨0, 0, 0, 0⟩)
abbrev s_is_number : Stmt := top 1
abbrev s_is_within : Stmt := top 2
abbrev s_need_last : Stmt := top 9
abbrev s_need_moments : Stmt := top 10
abbrev s_gaps : Stmt := top 11
abbrev s_reach_on : Stmt := top 12
abbrev s_reach_both : Stmt := top 13
abbrev s_least_on : Stmt := top 14
abbrev s_least_both : Stmt := top 15
abbrev s_even_on : Stmt := top 16
abbrev s_even_both : Stmt := top 17
abbrev s_lpool : Stmt := top 19
abbrev s_ltake : Stmt := top 20
abbrev s_lone : Stmt := top 21
abbrev s_lfar : Stmt := top 22
abbrev s_lchoices : Stmt := top 23
abbrev s_levens : Stmt := top 24
abbrev s_lcalled : Stmt := top 25
abbrev s_lheard : Stmt := top 26
abbrev s_lrefusals : Stmt := top 27
abbrev s_law : Stmt := top 28
abbrev s_MomentError_init : Stmt := inClass (top 4) 0
theorem sc_is_number : FnScope ["value"] ["value"] (defScope s_is_number) := ⟨rfl, rfl, rfl, by decide +kernel, rfl, by decide +kernel, by decide +kernel⟩
theorem sc_is_within : FnScope ["value", "low", "high"] ["value", "low", "high"] (defScope s_is_within) := ⟨rfl, rfl, rfl, by decide +kernel, rfl, by decide +kernel, by decide +kernel⟩
theorem sc_need_last : FnScope ["last"] ["last"] (defScope s_need_last) := ⟨rfl, rfl, rfl, by decide +kernel, rfl, by decide +kernel, by decide +kernel⟩
theorem sc_need_moments : FnScope ["last", "moments", "most_first", "low", "high", "moment"] ["last", "moments", "most_first"] (defScope s_need_moments) := ⟨rfl, rfl, rfl, by decide +kernel, rfl, by decide +kernel, by decide +kernel⟩
theorem sc_gaps : FnScope ["moments", "ahead", "after"] ["moments"] (defScope s_gaps) := ⟨rfl, rfl, rfl, by decide +kernel, rfl, by decide +kernel, by decide +kernel⟩
theorem sc_reach_on : FnScope ["last", "moments", "gap"] ["last", "moments"] (defScope s_reach_on) := ⟨rfl, rfl, rfl, by decide +kernel, rfl, by decide +kernel, by decide +kernel⟩
theorem sc_reach_both : FnScope ["last", "moments", "gap"] ["last", "moments"] (defScope s_reach_both) := ⟨rfl, rfl, rfl, by decide +kernel, rfl, by decide +kernel, by decide +kernel⟩
theorem sc_least_on : FnScope ["last", "many"] ["last", "many"] (defScope s_least_on) := ⟨rfl, rfl, rfl, by decide +kernel, rfl, by decide +kernel, by decide +kernel⟩
theorem sc_least_both : FnScope ["last", "many"] ["last", "many"] (defScope s_least_both) := ⟨rfl, rfl, rfl, by decide +kernel, rfl, by decide +kernel, by decide +kernel⟩
theorem sc_even_on : FnScope ["last", "many", "reach"] ["last", "many"] (defScope s_even_on) := ⟨rfl, rfl, rfl, by decide +kernel, rfl, by decide +kernel, by decide +kernel⟩
theorem sc_even_both : FnScope ["last", "many", "reach", "moment"] ["last", "many"] (defScope s_even_both) := ⟨rfl, rfl, rfl, by decide +kernel, rfl, by decide +kernel, by decide +kernel⟩
theorem sc_lpool : FnScope ["_law_script", "_law_k", "_law_cell", "_law_big", "_law_mixed"] ["_law_script", "_law_k"] (defScope s_lpool) := ⟨rfl, rfl, rfl, by decide +kernel, rfl, by decide +kernel, by decide +kernel⟩
theorem sc_ltake : FnScope ["_law_source", "_law_top", "_law_drawn"] ["_law_source", "_law_top"] (defScope s_ltake) := ⟨rfl, rfl, rfl, by decide +kernel, rfl, by decide +kernel, by decide +kernel⟩
theorem sc_lone : FnScope ["_law_source", "_law_things"] ["_law_source", "_law_things"] (defScope s_lone) := ⟨rfl, rfl, rfl, by decide +kernel, rfl, by decide +kernel, by decide +kernel⟩
theorem sc_lfar : FnScope ["_law_last", "_law_some", "_law_both", "_law_most", "_law_t", "_law_steps", "_law_one_here", "_law_step"] ["_law_last", "_law_some", "_law_both"] (defScope s_lfar) := ⟨rfl, rfl, rfl, by decide +kernel, rfl, by decide +kernel, by decide +kernel⟩
theorem sc_lchoices : FnScope ["_law_last", "_law_many", "_law_lots", "_law_t", "_law_lot"] ["_law_last", "_law_many"] (defScope s_lchoices) := ⟨rfl, rfl, rfl, by decide +kernel, rfl, by decide +kernel, by decide +kernel⟩
theorem sc_levens : FnScope ["_law_last", "_law_many", "_law_step", "_law_first", "_law_near", "_law_second", "_law_k", "_law_one_here"] ["_law_last", "_law_many"] (defScope s_levens) := ⟨rfl, rfl, rfl, by decide +kernel, rfl, by decide +kernel, by decide +kernel⟩
theorem sc_lcalled : FnScope ["_law_way", "_law_last", "_law_more"] ["_law_way", "_law_last", "_law_more"] (defScope s_lcalled) := ⟨rfl, rfl, rfl, by decide +kernel, rfl, by decide +kernel, by decide +kernel⟩
theorem sc_lheard : FnScope ["_law_call", "e"] ["_law_call"] (defScope s_lheard) := ⟨rfl, rfl, rfl, by decide +kernel, rfl, by decide +kernel, by decide +kernel⟩
theorem sc_lrefusals : FnScope ["_law_source", "_law_last", "_law_odd", "_law_way", "_law_less", "_law_none", "_law_wrong"] ["_law_source", "_law_last"] (defScope s_lrefusals) := ⟨rfl, rfl, rfl, by decide +kernel, rfl, by decide +kernel, by decide +kernel⟩
theorem sc_law : FnScope ["_law_script", "_law_k", "_law_source", "_law_last", "_law_many", "_law_lots", "_law_lot", "_law_based", "_law_ons", "_law_boths", "_law_room", "_law_some", "_law_first", "_law_second", "_law_one_here"] ["_law_script"] (defScope s_law) := ⟨rfl, rfl, rfl, by decide +kernel, rfl, by decide +kernel, by decide +kernel⟩
theorem sc_told : FnScope ["self", "told"] ["self", "told"] (defScope s_MomentError_init) := ⟨rfl, rfl, rfl, by decide +kernel, rfl, by decide +kernel, by decide +kernel⟩
/-- what the top has written -/
structure Txt (K : PySem.W.Frag) (mg : Str → Option Value) where
  n_abs : mg "abs" = none
  n_bool : mg "bool" = none
  n_int : mg "int" = none
  n_isinstance : mg "isinstance" = none
  n_len : mg "len" = none
  n_list : mg "list" = none
  n_max : mg "max" = none
  n_min : mg "min" = none
  n_range : mg "range" = none
  n_tuple : mg "tuple" = none
  n_zip : mg "zip" = none
  m_MOST_STEPS : ∃ t, mg "MOST_STEPS" = some (.int 600 t)
  d_is_number : Dn K mg "is_number" s_is_number ["value"]
  d_is_within : Dn K mg "is_within" s_is_within ["value", "low", "high"]
  d_need_last : Dn K mg "_need_last" s_need_last ["last"]
  d_need_moments : Dn K mg "_need_moments" s_need_moments ["last", "moments", "most_first"]
  d_gaps : Dn K mg "_gaps" s_gaps ["moments"]
  d_reach_on : Dn K mg "reach_on" s_reach_on ["last", "moments"]
  d_reach_both : Dn K mg "reach_both" s_reach_both ["last", "moments"]
  d_least_on : Dn K mg "least_on" s_least_on ["last", "many"]
  d_least_both : Dn K mg "least_both" s_least_both ["last", "many"]
  d_even_on : Dn K mg "even_on" s_even_on ["last", "many"]
  d_even_both : Dn K mg "even_both" s_even_both ["last", "many"]
  d_lpool : Dn K mg "_law_pool" s_lpool ["_law_script", "_law_k"]
  d_ltake : Dn K mg "_law_take" s_ltake ["_law_source", "_law_top"]
  d_lone : Dn K mg "_law_one" s_lone ["_law_source", "_law_things"]
  d_lfar : Dn K mg "_law_far" s_lfar ["_law_last", "_law_some", "_law_both"]
  d_lchoices : Dn K mg "_law_choices" s_lchoices ["_law_last", "_law_many"]
  d_levens : Dn K mg "_law_evens" s_levens ["_law_last", "_law_many"]
  d_lcalled : Dn K mg "_law_called" s_lcalled ["_law_way", "_law_last", "_law_more"]
  d_lheard : Dn K mg "_law_heard" s_lheard ["_law_call"]
  d_lrefusals : Dn K mg "_law_refusals" s_lrefusals ["_law_source", "_law_last"]
  d_law : Dn K mg "law" s_law ["_law_script"]
  a_MomentError : Addr
  m_MomentError : mg "MomentError" = some (.ref a_MomentError)
  x_NoMoment : Ex K mg "NoMoment" "MomentError.__init__" s_MomentError_init
  x_NoCount : Ex K mg "NoCount" "MomentError.__init__" s_MomentError_init
  x2_NoMoment : Ex2 K x_NoMoment.C a_MomentError
  x2_NoCount : Ex2 K x_NoCount.C a_MomentError
theorem _root_.DL.boot_minB : bootBuiltins "min" = some (.builtin "min") := by decide +kernel
theorem _root_.DL.boot_absB : bootBuiltins "abs" = some (.builtin "abs") := by decide +kernel
end K19

set_option maxHeartbeats 2000000
namespace K19
open PySem PySem.Spec PyProof.Rows L2 DL
variable [TabCtx]
local macro_rules | `(tactic| walk_at "red") => `(tactic| simp only [wiSeq, seqOf_lst, seqOf_tup, wiAny, wzE, wzOpL, wzIf, gzRet, gzSet, gzDrop, gPar, wLcZ, wiZip, wTupRg3, wiRg3, fMin, fAbs, fMaxL, fMinL, gUn2L, gFor2L, wLcI, wLam3, gSrc, or_false, false_or, exists_false, false_and, and_false, wDc3, gAcc, gSeqH, gForEH, gForE, gForH, gIfH, gLift, gNextH, gAppendH, gAppend, gDone, gSetH, DL.seen, dIsN, dNotN, wDc, wFld, wMeth, wDIn, wDIx, wDGetN, wNew, wzNew, wLcI, gField, gCL, fLenQ, dIxQ, wNeK, wIndex, gTryRet, gTryDrop, wzCall, wzCallL, wTold, fIsE, fRepr, wJoin, wDGet, wVals, dPow, wSrc, gSrcSet, dMulS, dFdivS, fInt, fMax, fTuple, fList, startD, gNext, gSeq, gRet, gSet, gIf, gDrop, gRaise, gFor, wVar, wC, wOp, wTest, wChain, wAnd, wOr, wNot, wtAnd, wtOr, wtNot, wIf, waNil, waCons, wTup, wLst, wCall, quiet, wIsi, wInK, wLc, wiStr, wiTup, wiLst, wiRange, wSl, woNone, woSome, dSl, wNeg, dNeg, fLen, fAll, dEq, dNe, dLe, dLt, dGe, dGt, dAdd, dSub, dMod, dIx, dIn, dIsB, strsOf, boolsOf, DL.tyD_non, at_0, at_1, at_2, at_3, at_4, DL.isInt_non, DL.isStr_non, DL.isBl_non, DL.isTup_non, DL.isLst_non, DL.tyD_bl, DL.isInt_bl, DL.isStr_bl, DL.isBl_bl, DL.isTup_bl, DL.isLst_bl, DL.tyD_int, DL.isInt_int, DL.isStr_int, DL.isBl_int, DL.isTup_int, DL.isLst_int, DL.tyD_str, DL.isInt_str, DL.isStr_str, DL.isBl_str, DL.isTup_str, DL.isLst_str, DL.tyD_lst, DL.isInt_lst, DL.isStr_lst, DL.isBl_lst, DL.isTup_lst, DL.isLst_lst, DL.tyD_tup, DL.isInt_tup, DL.isStr_tup, DL.isBl_tup, DL.isTup_tup, DL.isLst_tup, pure1, pure2, pure3, Option.map_some,
  List.map_cons, List.map_nil, List.length_cons, List.length_nil, List.cons_append, List.nil_append, List.getElem?_cons_zero, List.getElem?_cons_succ, Option.some.injEq, exists_eq_left', exists_eq_left, exists_eq_right, exists_eq_right', D.bl.injEq, D.int.injEq, D.str.injEq, D.tup.injEq, D.lst.injEq, D.fn.injEq, D.sq.injEq, D.exn.injEq, List.cons.injEq, and_true, true_and, and_self, exists_and_left, exists_and_right, Option.isSome_some, List.set_cons_zero, List.set_cons_succ, if_true, Bool.false_eq_true, if_false, Bool.not_true, Bool.not_false, reduceCtorEq, List.replicate, Nat.reduceSub, Nat.reduceAdd])
def firstBad (last : Int) : Int → Int → List D → Option D
  | _, _, [] => none
  | low, high, .int i :: r => if isWithin (.int i) low high = true then firstBad last (i + 1) last r else some (.int i)
  | _, _, x :: _ => some x
def badM (last mf : Int) (m : D) : Option D := match seqOf m with
  | none => some .non
  | some [] => some .non
  | some xs => firstBad last 0 mf xs
def okM (m : D) : Prop := tyOk m ∧ ∀ xs, seqOf m = some xs → xs.length ≤ 100000 ∧ ∀ x ∈ xs, tyOk x
theorem firstBad_none {last : Int} : ∀ {xs : List D} {low high : Int}, firstBad last low high xs = none → ∃ ns : List Int, xs = ns.map D.int ∧ goodI last low high ns = true := by
  intro xs
  induction xs with
  | nil => intro low high _; exact ⟨[], rfl, rfl⟩
  | cons x r ih =>
    intro low high h
    cases x with
    | int i =>
      rw [firstBad] at h
      split at h
      · rename_i hw
        obtain ⟨ns, rfl, hg⟩ := ih h
        exact ⟨i :: ns, rfl, by simp only [isWithin] at hw; rw [goodI, hw, hg]; rfl⟩
      · cases h
    | _ => cases h
theorem firstBad_good {last : Int} : ∀ {ns : List Int} {low high : Int}, goodI last low high ns = true → firstBad last low high (ns.map D.int) = none := by
  intro ns
  induction ns with
  | nil => intro low high _; rfl
  | cons x r ih =>
    intro low high h
    rw [goodI, Bool.and_eq_true] at h
    rw [List.map_cons, firstBad, if_pos (show isWithin (.int x) low high = true from h.1)]
    exact ih h.2
theorem badM_none {last mf : Int} {m : D} (h : badM last mf m = none) : ∃ ns : List Int, seqOf m = some (ns.map D.int) ∧ ns ≠ [] ∧ goodI last 0 mf ns = true := by
  unfold badM at h
  split at h
  · cases h
  · cases h
  · rename_i xs hne hs
    obtain ⟨ns, rfl, hg⟩ := firstBad_none h
    refine ⟨ns, hs, fun e => ?_, hg⟩
    subst e
    exact hne rfl
theorem badM_good {last mf : Int} {m : D} {ns : List Int} (hs : seqOf m = some (ns.map D.int)) (hn : ns ≠ []) (hg : goodI last 0 mf ns = true) : badM last mf m = none := by
  unfold badM
  split
  · rename_i e
    rw [hs] at e
    cases e
  · rename_i e
    rw [hs] at e
    cases ns with
    | nil => exact absurd rfl hn
    | cons a b => cases e
  · rename_i xs _ e
    rw [hs] at e
    cases e
    exact firstBad_good hg
theorem ints_map : ∀ ns : List Int, intsOf (ns.map D.int) = some ns
  | [] => rfl
  | x :: r => by
    rw [List.map_cons, intsOf, ints_map r]
    rfl
theorem last_split : ∀ {ns : List Int}, ns ≠ [] → ∃ r, ns = r ++ [lastI ns] := by
  intro ns
  induction ns with
  | nil => intro h; exact absurd rfl h
  | cons x r ih =>
    intro _
    cases r with
    | nil => exact ⟨[], rfl⟩
    | cons y r =>
      obtain ⟨q, e⟩ := ih (by simp)
      exact ⟨x :: q, by rw [lastI, List.cons_append, ← e]⟩
theorem at_last {ns : List Int} (h : ns ≠ []) : L2.atI (ns.map D.int) (-1) = some (.int (lastI ns)) := by
  obtain ⟨r, e⟩ := last_split h
  generalize lastI ns = z at *
  subst e
  rw [List.map_append, List.map_cons, List.map_nil]
  exact L2.atI_last _ _
theorem at_head {ns : List Int} (h : ns ≠ []) : L2.atI (ns.map D.int) 0 = some (.int (headI ns)) := by
  cases ns with
  | nil => exact absurd rfl h
  | cons x r => exact L2.atI_nat (j := 0) rfl
theorem each2_gaps {f : D → D → (D → Prop) → Prop} (hf : ∀ (a b : Int) (P' : D → Prop), P' (.int (b - a)) → f (.int a) (.int b) P') : ∀ {ns : List Int} {P : List D → Prop}, P ((gapsI ns).map D.int) → wEach2 f (ns.map D.int) ((ns.map D.int).drop 1) P := by
  intro ns
  induction ns with
  | nil => intro P h; exact h
  | cons x r ih =>
    intro P h
    cases r with
    | nil => exact h
    | cons y r => exact hf x y _ (ih (P := fun zs => P (.int (y - x) :: zs)) h)
theorem gaps_len : ∀ ns : List Int, (gapsI ns).length ≤ ns.length
  | [] => Nat.le_refl _
  | [x] => Nat.zero_le _
  | x :: y :: r => by
    have := gaps_len (y :: r)
    simp only [gapsI, List.length_cons] at this ⊢
    omega
section
variable {P : Program} {w : World} {K : PySem.W.Frag} {mg : Str → Option Value} {base : Heap}
theorem ok_is_number (T : Txt K mg) : FnOk P w K mg base CX0 1 T.d_is_number.f T.d_is_number.fd ["value"] (spD fun es P _ => (pure1 tyOk fun d => .bl (isNum d)) es P) :=
  fn_ok T.d_is_number.F sc_is_number (fun es P h => by first | exact pure1_len h | exact pure2_len h | exact pure3_len h | (obtain ⟨_, rfl, _⟩ := h; rfl) | (obtain ⟨_, _, rfl, _⟩ := h; rfl) | (obtain ⟨_, _, _, rfl, _⟩ := h; rfl) | (obtain ⟨_, _, _, _, rfl, _⟩ := h; rfl)) (fun cdv A outer s H E hr => ⟨_,
    (wss_one (ws_ret (we_and (we_isi (x1 := "int") tyIs_int rfl T.n_isinstance rfl T.n_int boot_intT (we_var (pv 0))) (we_one (we_not (we_isi (x1 := "bool") tyIs_bool rfl T.n_isinstance rfl T.n_bool boot_boolT (we_var (pv 0)))))))),
    fun es P h => by
      obtain ⟨d, rfl, ok, hp⟩ := h
      cases d <;> simp [tyOk, tyD, isNum] at ok hp <;> walk_at "red" <;> exact hp⟩)
def gWithin : DFn := fun es P => ∃ d lo hi, es = [d, .int lo, .int hi] ∧ tyOk d ∧ P (.bl (isWithin d lo hi))
theorem ok_is_within (T : Txt K mg) : FnOk P w K mg base CX0 2 T.d_is_within.f T.d_is_within.fd ["value", "low", "high"] (spD fun es P _ => (gWithin) es P) :=
  fn_ok T.d_is_within.F sc_is_within (fun es P h => by first | exact pure1_len h | exact pure2_len h | exact pure3_len h | (obtain ⟨_, rfl, _⟩ := h; rfl) | (obtain ⟨_, _, rfl, _⟩ := h; rfl) | (obtain ⟨_, _, _, rfl, _⟩ := h; rfl) | (obtain ⟨_, _, _, _, rfl, _⟩ := h; rfl)) (fun cdv A outer s H E hr => ⟨_,
    (wss_one (ws_ret (we_and (we_call (ok_is_number T) (hr.mono (by decide)) rfl T.d_is_number.m T.d_is_number.F.kp T.d_is_number.b (wa_cons (we_var (pv 0)) wa_nil)) (we_one (we_chain op_dLe op_dLe (we_var (pv 1)) (we_var (pv 0)) (we_var (pv 2))))))),
    fun es P h => by
      obtain ⟨d, lo, hi, rfl, ok, hp⟩ := h
      walk_at "red"
      refine ⟨ok, ?_⟩
      cases d with
      | int j =>
        simp only [isNum, if_true, isWithin] at hp ⊢
        by_cases h1 : lo ≤ j <;> simpa [h1] using hp
      | _ => exact hp⟩)
abbrev gNeedLast (C : Addr) : DSp := fun es P Z => ∃ d, es = [d] ∧ tyOk d ∧ if isWithin d 0 600 = true then P .non else Z C d
theorem ok_need_last (T : Txt K mg) : FnOk P w K mg base (L2.CX P w) 3 T.d_need_last.f T.d_need_last.fd ["last"] (spD (gNeedLast T.x_NoCount.C)) :=
  fn_okX T.d_need_last.F sc_need_last (fun es P Z h => by first | exact pure1_len h | exact pure2_len h | exact pure3_len h | (obtain ⟨_, rfl, _⟩ := h; rfl) | (obtain ⟨_, _, rfl, _⟩ := h; rfl) | (obtain ⟨_, _, _, rfl, _⟩ := h; rfl) | (obtain ⟨_, _, _, _, rfl, _⟩ := h; rfl)) (fun cdv A outer s H E hr => ⟨_,
    (wss_one (ws_if (wt_not (wt_val (we_call (ok_is_within T) (hr.mono (by decide)) rfl T.d_is_within.m T.d_is_within.F.kp T.d_is_within.b (wa_cons (we_var (pv 0)) (wa_cons (we_c pe_int) (wa_cons (we_k rfl T.m_MOST_STEPS) wa_nil))))))
        (wss_one (ws_raise rfl (takes_of rfl rfl rfl rfl) T.x_NoCount.T T.x_NoCount.iC T.x_NoCount.tI T.x_NoCount.no (ok_told T.x_NoCount.F sc_told rfl rfl rfl) (hr.mono (by decide)) T.x_NoCount.b pass0 rfl T.x_NoCount.m (we_var (pv 0))))
        wss_nil)),
    fun es P Z h => by
      obtain ⟨d, rfl, ok, hp⟩ := h
      walk_at "red"
      refine ⟨_, _, _, rfl, ok, _, rfl, ?_⟩
      cases h1 : isWithin d 0 600 <;> simpa [h1] using hp⟩)
abbrev gNeedMoments (C : Addr) : DSp := fun es P Z => ∃ last m mf, es = [.int last, m, .int mf] ∧ okM m ∧ match badM last mf m with | none => P .non | some t => Z C t
theorem ok_need_moments (T : Txt K mg) : FnOk P w K mg base (L2.CX P w) 3 T.d_need_moments.f T.d_need_moments.fd ["last", "moments", "most_first"] (spD (gNeedMoments T.x_NoMoment.C)) :=
  fn_okX T.d_need_moments.F sc_need_moments (fun es P Z h => by first | exact pure1_len h | exact pure2_len h | exact pure3_len h | (obtain ⟨_, rfl, _⟩ := h; rfl) | (obtain ⟨_, _, rfl, _⟩ := h; rfl) | (obtain ⟨_, _, _, rfl, _⟩ := h; rfl) | (obtain ⟨_, _, _, _, rfl, _⟩ := h; rfl)) (fun cdv A outer s H E hr => ⟨_,
    (wss_cons (ws_if (PW.pt (ww_or (wt_not (wt_val (we_isi2 tyIs_list tyIs_tuple rfl T.n_isinstance rfl T.n_list boot_listT rfl T.n_tuple boot_tupleT (we_var (pv 1))))) (pw_or1 (wt_cmp (op_dEq hr.units) (we_callB call_fLen rfl T.n_len boot_lenB (wa_cons (we_var (pv 1)) wa_nil)) (we_c pe_int) (nomark _)))))
        (wss_one (ws_raise rfl (takes_of rfl rfl rfl rfl) T.x_NoMoment.T T.x_NoMoment.iC T.x_NoMoment.tI T.x_NoMoment.no (ok_told T.x_NoMoment.F sc_told rfl rfl rfl) (hr.mono (by decide)) T.x_NoMoment.b pass0 rfl T.x_NoMoment.m (we_c pe_non)))
        wss_nil)
      (wss_cons (ws_par (i := 3) (j := 4) rfl sc_need_moments.nd rfl rfl (by decide) rfl rfl (wa_cons (we_c pe_int) (wa_cons (we_var (pv 2)) wa_nil)))
      (wss_one (ws_for (x := "") (passes_of rfl) rfl (wi_sq (we_var (pv 1))) (pg_name (i := 5) sc_need_moments.nd rfl (by first | exact .inl rfl | exact .inr rfl))
        (wss_cons (ws_if (wt_not (wt_val (we_call (ok_is_within T) (hr.mono (by decide)) rfl T.d_is_within.m T.d_is_within.F.kp T.d_is_within.b (wa_cons (we_var (pv 5)) (wa_cons (we_var (pv 3)) (wa_cons (we_var (pv 4)) wa_nil))))))
          (wss_one (ws_raise rfl (takes_of rfl rfl rfl rfl) T.x_NoMoment.T T.x_NoMoment.iC T.x_NoMoment.tI T.x_NoMoment.no (ok_told T.x_NoMoment.F sc_told rfl rfl rfl) (hr.mono (by decide)) T.x_NoMoment.b pass0 rfl T.x_NoMoment.m (we_var (pv 5))))
          wss_nil)
        (wss_one (ws_par (i := 3) (j := 4) rfl sc_need_moments.nd rfl rfl (by decide) rfl rfl (wa_cons (we_op op_dAdd (we_var (pv 5)) (we_c pe_int)) (wa_cons (we_var (pv 0)) wa_nil))))))))),
    fun es P Z h => by
      obtain ⟨last, m, mf, rfl, ok, hp⟩ := h
      have key : ∀ xs, seqOf m = some xs → xs ≠ [] → ∃ I : Nat → Sl → Prop, I 0 [some (.int last), some m, some (.int mf), some (.int 0), some (.int mf), none] ∧
          (∀ (j : Nat) (x : D) (ds' : Sl), xs[j]? = some x → I j ds' → ∃ lo hi x5, ds' = [some (.int last), some m, some (.int mf), some (.int lo), some (.int hi), x5] ∧ tyOk x ∧
            if isWithin x lo hi = true then ∃ i, x = .int i ∧ I (j + 1) [some (.int last), some m, some (.int mf), some (.int (i + 1)), some (.int last), some x] else Z T.x_NoMoment.C x) ∧ ∀ ds', I xs.length ds' → P .non := by
        intro xs hs hne
        have hb : badM last mf m = firstBad last 0 mf xs := by
          unfold badM
          rw [hs]
          cases xs with
          | nil => exact absurd rfl hne
          | cons a b => rfl
        rw [hb] at hp
        refine ⟨fun j ds => ∃ lo hi x5, ds = [some (.int last), some m, some (.int mf), some (.int lo), some (.int hi), x5] ∧ firstBad last lo hi (xs.drop j) = firstBad last 0 mf xs, ⟨0, mf, none, rfl, by simp⟩, ?_, ?_⟩
        · rintro j x ds' hx ⟨lo, hi, x5, rfl, hI⟩
          have hj : j < xs.length := (List.getElem?_eq_some_iff.mp hx).1
          have hxj : xs[j] = x := (List.getElem?_eq_some_iff.mp hx).2
          refine ⟨lo, hi, x5, rfl, (ok.2 xs hs).2 x (by rw [← hxj]; exact List.getElem_mem hj), ?_⟩
          rw [List.drop_eq_getElem_cons hj, hxj] at hI
          cases x with
          | int i =>
            rw [firstBad] at hI
            split
            · rename_i hw
              rw [if_pos hw] at hI
              exact ⟨i, rfl, i + 1, last, some (.int i), rfl, hI⟩
            · rename_i hw
              rw [if_neg hw] at hI
              rw [← hI] at hp
              exact hp
          | _ =>
            rw [← hI] at hp
            exact hp
        · rintro ds' ⟨lo, hi, x5, rfl, hI⟩
          rw [List.drop_length] at hI
          rw [← hI] at hp
          exact hp
      have fin : ∀ xs, seqOf m = some xs → xs ≠ [] → ∃ I : Nat → Sl → Prop, I 0 [some (.int last), some m, some (.int mf), some (.int 0), some (.int mf), none] ∧
          (∀ (j : Nat) (x : D) (ds' : Sl), xs[j]? = some x → I j ds' → gSeq (gIf (wtNot (wTest (wCall gWithin (waCons (wVar 5) (waCons (wVar 3) (waCons (wVar 4) waNil)))))) (gRaise T.x_NoMoment.C (wVar 5)) gNext)
            (gPar 3 4 (waCons (wOp dAdd (wVar 5) (wC (.int 1))) (waCons (wVar 0) waNil))) (ds'.set 5 (some x)) (I (j + 1)) P Z) ∧ ∀ ds', I xs.length ds' → P .non := by
        intro xs hs hne
        obtain ⟨I, h0, h1, h2⟩ := key xs hs hne
        refine ⟨I, h0, fun j x ds' hx hI => ?_, h2⟩
        obtain ⟨lo, hi, x5, rfl, ht, hk⟩ := h1 j x ds' hx hI
        walk_at "red"
        refine ⟨x, lo, hi, rfl, ht, _, rfl, ?_⟩
        cases hw : isWithin x lo hi with
        | true =>
          rw [hw, if_pos rfl] at hk
          obtain ⟨i, rfl, hk⟩ := hk
          exact ⟨_, _, ⟨rfl, rfl⟩, hk⟩
        | false =>
          rw [hw, if_neg Bool.false_ne_true] at hk
          exact hk
      generalize hB : gSeq (gIf (wtNot (wTest (wCall gWithin (waCons (wVar 5) (waCons (wVar 3) (waCons (wVar 4) waNil)))))) (gRaise T.x_NoMoment.C (wVar 5)) gNext) (gPar 3 4 (waCons (wOp dAdd (wVar 5) (wC (.int 1))) (waCons (wVar 0) waNil))) = B at fin ⊢
      cases m with
      | lst xs =>
        cases xs with
        | nil => walk_at "red"; exact hp
        | cons x r =>
          obtain ⟨I, h0, h1, h2⟩ := fin _ rfl (by simp)
          walk_at "red"
          exact ifF rfl (ifF (decide_eq_false (by omega)) ⟨_, _, ⟨rfl, rfl⟩, I, h0, h1, h2⟩)
      | tup xs =>
        cases xs with
        | nil => walk_at "red"; exact hp
        | cons x r =>
          obtain ⟨I, h0, h1, h2⟩ := fin _ rfl (by simp)
          walk_at "red"
          exact ifF rfl (ifF (decide_eq_false (by omega)) ⟨_, _, ⟨rfl, rfl⟩, I, h0, h1, h2⟩)
      | non => walk_at "red"; exact hp
      | bl _ => walk_at "red"; exact hp
      | int _ => walk_at "red"; exact hp
      | str _ => walk_at "red"; exact hp
      | _ => cases ok.1⟩)
def seqInt (m : D) (ns : List Int) : Prop := m = .lst (ns.map D.int) ∨ m = .tup (ns.map D.int)
theorem ok_gaps (T : Txt K mg) : FnOk P w K mg base CX0 1 T.d_gaps.f T.d_gaps.fd ["moments"] (spD fun es P _ => (fun es P => ∃ m ns, es = [m] ∧ seqInt m ns ∧ ns.length ≤ 100000 ∧ P (.lst ((gapsI ns).map D.int))) es P) :=
  fn_ok T.d_gaps.F sc_gaps (fun es P h => by first | exact pure1_len h | exact pure2_len h | exact pure3_len h | (obtain ⟨_, rfl, _⟩ := h; rfl) | (obtain ⟨_, _, rfl, _⟩ := h; rfl) | (obtain ⟨_, _, _, rfl, _⟩ := h; rfl) | (obtain ⟨_, _, _, _, rfl, _⟩ := h; rfl)) (fun cdv A outer s H E hr => ⟨_,
    (wss_one (ws_ret (we_lcz (i1 := 1) (i2 := 2) (x1 := "ahead") (x2 := "after") rfl sc_gaps.nd (wi_zip rfl T.n_zip (we_var (pv 0)) (we_sl (we_var (pv 0)) (wo_some (we_c pe_int)) wo_none)) (blkOk_by (N := ["moments", "ahead", "after"]) (sc := defScope s_gaps) (by decide +kernel)) (fun _ _ _ _ _ => pg_tup (n := 2) rfl (pgs_cons (pg_name (i := 1) sc_gaps.nd rfl (Or.inl rfl)) (pgs_cons (pg_name (i := 2) sc_gaps.nd rfl (Or.inl rfl)) pgs_nil))) (fun _ _ _ _ _ => (we_op op_dSub (we_var (pv 2)) (we_var (pv 1))))))),
    fun es P h => by
      obtain ⟨m, ns, rfl, hm, hl, hp⟩ := h
      have e : cutD (ns.map D.int) (some 1) none = (ns.map D.int).drop 1 := cut_drop (ns.map D.int) 1
      rcases hm with rfl | rfl
      · walk_at "red"
        rw [e]
        refine ⟨_, _, ⟨rfl, rfl⟩, by rw [sizeLine_eq]; simp; omega, each2_gaps (fun a b P' h => ?_) hp⟩
        exact ⟨_, rfl, _, rfl, h⟩
      · walk_at "red"
        rw [e]
        refine ⟨_, _, ⟨rfl, rfl⟩, by rw [sizeLine_eq]; simp; omega, each2_gaps (fun a b P' h => ?_) hp⟩
        exact ⟨_, rfl, _, rfl, h⟩⟩)
end
end K19

set_option maxHeartbeats 2000000
namespace K19
open PySem PySem.Spec PyProof.Rows L2 DL
variable [TabCtx]
local macro_rules | `(tactic| walk_at "red") => `(tactic| simp only [wiSeq, seqOf_lst, seqOf_tup, wiAny, wzE, wzOpL, wzIf, gzRet, gzSet, gzDrop, gPar, wLcZ, wiZip, wTupRg3, wiRg3, fMin, fAbs, fMaxL, fMinL, gUn2L, gFor2L, wLcI, wLam3, gSrc, or_false, false_or, exists_false, false_and, and_false, wDc3, gAcc, gSeqH, gForEH, gForE, gForH, gIfH, gLift, gNextH, gAppendH, gAppend, gDone, gSetH, DL.seen, dIsN, dNotN, wDc, wFld, wMeth, wDIn, wDIx, wDGetN, wNew, wzNew, wLcI, gField, gCL, fLenQ, dIxQ, wNeK, wIndex, gTryRet, gTryDrop, wzCall, wzCallL, wTold, fIsE, fRepr, wJoin, wDGet, wVals, dPow, wSrc, gSrcSet, dMulS, dFdivS, fInt, fMax, fTuple, fList, startD, gNext, gSeq, gRet, gSet, gIf, gDrop, gRaise, gFor, wVar, wC, wOp, wTest, wChain, wAnd, wOr, wNot, wtAnd, wtOr, wtNot, wIf, waNil, waCons, wTup, wLst, wCall, quiet, wIsi, wInK, wLc, wiStr, wiTup, wiLst, wiRange, wSl, woNone, woSome, dSl, wNeg, dNeg, fLen, fAll, dEq, dNe, dLe, dLt, dGe, dGt, dAdd, dSub, dMod, dIx, dIn, dIsB, strsOf, boolsOf, DL.tyD_non, at_0, at_1, at_2, at_3, at_4, DL.isInt_non, DL.isStr_non, DL.isBl_non, DL.isTup_non, DL.isLst_non, DL.tyD_bl, DL.isInt_bl, DL.isStr_bl, DL.isBl_bl, DL.isTup_bl, DL.isLst_bl, DL.tyD_int, DL.isInt_int, DL.isStr_int, DL.isBl_int, DL.isTup_int, DL.isLst_int, DL.tyD_str, DL.isInt_str, DL.isStr_str, DL.isBl_str, DL.isTup_str, DL.isLst_str, DL.tyD_lst, DL.isInt_lst, DL.isStr_lst, DL.isBl_lst, DL.isTup_lst, DL.isLst_lst, DL.tyD_tup, DL.isInt_tup, DL.isStr_tup, DL.isBl_tup, DL.isTup_tup, DL.isLst_tup, pure1, pure2, pure3, Option.map_some,
  List.map_cons, List.map_nil, List.length_cons, List.length_nil, List.cons_append, List.nil_append, List.getElem?_cons_zero, List.getElem?_cons_succ, Option.some.injEq, exists_eq_left', exists_eq_left, exists_eq_right, exists_eq_right', D.bl.injEq, D.int.injEq, D.str.injEq, D.tup.injEq, D.lst.injEq, D.fn.injEq, D.sq.injEq, D.exn.injEq, List.cons.injEq, and_true, true_and, and_self, exists_and_left, exists_and_right, Option.isSome_some, List.set_cons_zero, List.set_cons_succ, if_true, Bool.false_eq_true, if_false, Bool.not_true, Bool.not_false, reduceCtorEq, List.replicate, Nat.reduceSub, Nat.reduceAdd])
theorem seqInt_of {m : D} {ns : List Int} (h : seqOf m = some (ns.map D.int)) : seqInt m ns := by
  cases m <;> simp only [seqOf, Option.some.injEq, reduceCtorEq] at h
  · subst h; exact .inl rfl
  · subst h; exact .inr rfl
theorem seqOf_int {m : D} {ns : List Int} (h : seqInt m ns) : seqOf m = some (ns.map D.int) := by
  rcases h with rfl | rfl <;> rfl
theorem maxI_all {xs : List Int} {P : D → Prop} (h : P (.int (maxI xs))) (hn : xs ≠ []) : xs ≠ [] ∧ ∀ m, m ∈ xs → (∀ y ∈ xs, y ≤ m) → P (.int m) :=
  ⟨hn, fun m h1 h2 => by rw [← maxI_eq h1 h2]; exact h⟩
theorem minI_all {xs : List Int} {P : D → Prop} (h : P (.int (minI xs))) (hn : xs ≠ []) : xs ≠ [] ∧ ∀ m, m ∈ xs → (∀ y ∈ xs, m ≤ y) → P (.int m) :=
  ⟨hn, fun m h1 h2 => by rw [← minI_eq h1 h2]; exact h⟩
theorem each_ints {f : D → (D → Prop) → Prop} (g : Int → Int) (hf : ∀ (a : Int) (P' : D → Prop), P' (.int (g a)) → f (.int a) P') {ns : List Int} {P : List D → Prop} (h : P ((ns.map g).map D.int)) : wEach f (ns.map D.int) P := by
  refine wEach_pure (fun d => match d with | .int i => .int (g i) | d => d) (fun x hx P' hp => ?_) ?_
  · obtain ⟨i, _, rfl⟩ := List.mem_map.mp hx
    exact hf i P' hp
  · rw [List.map_map] at h ⊢
    exact h
section
variable {P : Program} {w : World} {K : PySem.W.Frag} {mg : Str → Option Value} {base : Heap}
abbrev needR (C1 C2 : Addr) (mf : Int → Int) (L : Int → List Int → List Int) : DSp := fun es P Z => ∃ d m, es = [d, m] ∧ tyOk d ∧ okM m ∧
  if isWithin d 0 600 = true then (∃ last, d = .int last ∧ match badM last (mf last) m with | some t => Z C2 t | none => ∀ ns, seqInt m ns → ns ≠ [] → P (.int (maxI (L last ns)))) else Z C1 d
theorem ok_reach_on (T : Txt K mg) : FnOk P w K mg base (L2.CX P w) 4 T.d_reach_on.f T.d_reach_on.fd ["last", "moments"] (spD (needR T.x_NoCount.C T.x_NoMoment.C (fun _ => 0) onL)) :=
  fn_okX T.d_reach_on.F sc_reach_on (fun es P Z h => by first | exact pure1_len h | exact pure2_len h | exact pure3_len h | (obtain ⟨_, rfl, _⟩ := h; rfl) | (obtain ⟨_, _, rfl, _⟩ := h; rfl) | (obtain ⟨_, _, _, rfl, _⟩ := h; rfl) | (obtain ⟨_, _, _, _, rfl, _⟩ := h; rfl)) (fun cdv A outer s H E hr => ⟨_,
    (wss_cons (ws_zdrop (we_zcall (ok_need_last T) (hr.mono (by decide)) (takes_of rfl rfl rfl rfl) rfl T.d_need_last.m T.d_need_last.F.kp T.d_need_last.b (wa_cons (we_var (pv 0)) wa_nil)))
      (wss_cons (ws_zdrop (we_zcall (ok_need_moments T) (hr.mono (by decide)) (takes_of rfl rfl rfl rfl) rfl T.d_need_moments.m T.d_need_moments.F.kp T.d_need_moments.b (wa_cons (we_var (pv 0)) (wa_cons (we_var (pv 1)) (wa_cons (we_c pe_int) wa_nil)))))
      (wss_one (ws_ret (we_callB (call_fMaxL rfl) rfl T.n_max boot_maxB (wa_cons (we_op op_dAdd (we_lst (wa_cons (we_op op_dSub (we_var (pv 0)) (we_ix (we_var (pv 1)) (we_neg (we_c pe_int)))) wa_nil)) (we_lc (i := 2) (x := "gap") rfl sc_reach_on.nd (wi_sq (we_call (ok_gaps T) (hr.mono (by decide)) rfl T.d_gaps.m T.d_gaps.F.kp T.d_gaps.b (wa_cons (we_var (pv 1)) wa_nil))) (blkOk_by (N := ["last", "moments", "gap"]) (sc := defScope s_reach_on) (by decide +kernel)) (fun _ _ _ _ _ => pg_name sc_reach_on.nd rfl (Or.inl rfl)) (fun _ _ _ _ _ => (we_op op_dSub (we_var (pv 2)) (we_c pe_int))))) wa_nil)))))),
    fun es P Z h => by
      obtain ⟨d, m, rfl, td, om, hp⟩ := h
      walk_at "red"
      refine ⟨d, rfl, td, ?_⟩
      cases hw : isWithin d 0 600 with
      | false =>
        rw [hw, if_neg Bool.false_ne_true] at hp
        exact ifF rfl hp
      | true =>
        rw [hw, if_pos rfl] at hp
        obtain ⟨last, rfl, hp⟩ := hp
        refine ifT rfl ⟨_, _, _, rfl, om, ?_⟩
        cases hb : badM last 0 m with
        | some t => rw [hb] at hp; exact hp
        | none =>
          rw [hb] at hp
          obtain ⟨ns, hs, hn, hg⟩ := badM_none hb
          have hm := seqInt_of hs
          have hl : ns.length ≤ 100000 := by have := (om.2 _ hs).1; simpa using this
          have q := hp ns hm hn
          have hgl := gaps_len ns
          have l1 : (List.map D.int (gapsI ns)).length < sizeLine := by rw [sizeLine_eq, List.length_map]; omega
          have l2 : 1 + (List.map D.int ((gapsI ns).map fun g => g - 1)).length ≤ sizeLine := by rw [sizeLine_eq, List.length_map, List.length_map]; omega
          rcases hm with rfl | rfl
          · exact ⟨_, at_last hn, line_big (by omega), ns, .inl rfl, hl, l1, each_ints (fun g => g - 1) (fun a P' h => h) ⟨l2, _, ints_map (onL last ns), maxI_all q (by simp [onL])⟩⟩
          · exact ⟨_, at_last hn, line_big (by omega), ns, .inr rfl, hl, l1, each_ints (fun g => g - 1) (fun a P' h => h) ⟨l2, _, ints_map (onL last ns), maxI_all q (by simp [onL])⟩⟩⟩)
theorem ok_reach_both (T : Txt K mg) : FnOk P w K mg base (L2.CX P w) 4 T.d_reach_both.f T.d_reach_both.fd ["last", "moments"] (spD (needR T.x_NoCount.C T.x_NoMoment.C (fun last => last) bothL)) :=
  fn_okX T.d_reach_both.F sc_reach_both (fun es P Z h => by first | exact pure1_len h | exact pure2_len h | exact pure3_len h | (obtain ⟨_, rfl, _⟩ := h; rfl) | (obtain ⟨_, _, rfl, _⟩ := h; rfl) | (obtain ⟨_, _, _, rfl, _⟩ := h; rfl) | (obtain ⟨_, _, _, _, rfl, _⟩ := h; rfl)) (fun cdv A outer s H E hr => ⟨_,
    (wss_cons (ws_zdrop (we_zcall (ok_need_last T) (hr.mono (by decide)) (takes_of rfl rfl rfl rfl) rfl T.d_need_last.m T.d_need_last.F.kp T.d_need_last.b (wa_cons (we_var (pv 0)) wa_nil)))
      (wss_cons (ws_zdrop (we_zcall (ok_need_moments T) (hr.mono (by decide)) (takes_of rfl rfl rfl rfl) rfl T.d_need_moments.m T.d_need_moments.F.kp T.d_need_moments.b (wa_cons (we_var (pv 0)) (wa_cons (we_var (pv 1)) (wa_cons (we_var (pv 0)) wa_nil)))))
      (wss_one (ws_ret (we_callB (call_fMaxL rfl) rfl T.n_max boot_maxB (wa_cons (we_op op_dAdd (we_lst (wa_cons (we_ix (we_var (pv 1)) (we_c pe_int)) (wa_cons (we_op op_dSub (we_var (pv 0)) (we_ix (we_var (pv 1)) (we_neg (we_c pe_int)))) wa_nil))) (we_lc (i := 2) (x := "gap") rfl sc_reach_both.nd (wi_sq (we_call (ok_gaps T) (hr.mono (by decide)) rfl T.d_gaps.m T.d_gaps.F.kp T.d_gaps.b (wa_cons (we_var (pv 1)) wa_nil))) (blkOk_by (N := ["last", "moments", "gap"]) (sc := defScope s_reach_both) (by decide +kernel)) (fun _ _ _ _ _ => pg_name sc_reach_both.nd rfl (Or.inl rfl)) (fun _ _ _ _ _ => (we_op op_dFdivS (we_var (pv 2)) (we_c pe_int))))) wa_nil)))))),
    fun es P Z h => by
      obtain ⟨d, m, rfl, td, om, hp⟩ := h
      walk_at "red"
      refine ⟨d, rfl, td, ?_⟩
      cases hw : isWithin d 0 600 with
      | false =>
        rw [hw, if_neg Bool.false_ne_true] at hp
        exact ifF rfl hp
      | true =>
        rw [hw, if_pos rfl] at hp
        obtain ⟨last, rfl, hp⟩ := hp
        refine ifT rfl ⟨_, _, _, rfl, om, ?_⟩
        cases hb : badM last last m with
        | some t => rw [hb] at hp; exact hp
        | none =>
          rw [hb] at hp
          obtain ⟨ns, hs, hn, hg⟩ := badM_none hb
          have hm := seqInt_of hs
          have hl : ns.length ≤ 100000 := by have := (om.2 _ hs).1; simpa using this
          have q := hp ns hm hn
          have hgl := gaps_len ns
          have l1 : (List.map D.int (gapsI ns)).length < sizeLine := by rw [sizeLine_eq, List.length_map]; omega
          have l2 : 2 + (List.map D.int ((gapsI ns).map fun g => g / 2)).length ≤ sizeLine := by rw [sizeLine_eq, List.length_map, List.length_map]; omega
          have cd : ∀ a : Int, CDiv a 2 := fun a => ⟨by decide, by decide⟩
          rcases hm with rfl | rfl
          · exact ⟨_, at_head hn, _, at_last hn, line_big (by omega), ns, .inl rfl, hl, l1, each_ints (fun g => g / 2) (fun a P' h => ⟨cd a, h⟩) ⟨l2, _, ints_map (bothL last ns), maxI_all q (by simp [bothL])⟩⟩
          · exact ⟨_, at_head hn, _, at_last hn, line_big (by omega), ns, .inr rfl, hl, l1, each_ints (fun g => g / 2) (fun a P' h => ⟨cd a, h⟩) ⟨l2, _, ints_map (bothL last ns), maxI_all q (by simp [bothL])⟩⟩⟩)
def cntOk (k : D) : Bool := match k with | .int j => decide (1 ≤ j) | _ => false
abbrev needC (C1 : Addr) (F : Int → Int → D) : DSp := fun es P Z => ∃ d k, es = [d, k] ∧ tyOk d ∧ tyOk k ∧
  if isWithin d 0 600 = true then (∃ last, d = .int last ∧ if cntOk k = true then (∃ j, k = .int j ∧ 1 ≤ j ∧ j ≤ 1000 ∧ P (F last j)) else Z C1 k) else Z C1 d
theorem ok_least_on (T : Txt K mg) : FnOk P w K mg base (L2.CX P w) 4 T.d_least_on.f T.d_least_on.fd ["last", "many"] (spD (needC T.x_NoCount.C (fun last j => .int ((last + j) / j - 1)))) :=
  fn_okX T.d_least_on.F sc_least_on (fun es P Z h => by first | exact pure1_len h | exact pure2_len h | exact pure3_len h | (obtain ⟨_, rfl, _⟩ := h; rfl) | (obtain ⟨_, _, rfl, _⟩ := h; rfl) | (obtain ⟨_, _, _, rfl, _⟩ := h; rfl) | (obtain ⟨_, _, _, _, rfl, _⟩ := h; rfl)) (fun cdv A outer s H E hr => ⟨_,
    (wss_cons (ws_zdrop (we_zcall (ok_need_last T) (hr.mono (by decide)) (takes_of rfl rfl rfl rfl) rfl T.d_need_last.m T.d_need_last.F.kp T.d_need_last.b (wa_cons (we_var (pv 0)) wa_nil)))
      (wss_cons (ws_if (PW.pt (ww_or (wt_not (wt_val (we_call (ok_is_number T) (hr.mono (by decide)) rfl T.d_is_number.m T.d_is_number.F.kp T.d_is_number.b (wa_cons (we_var (pv 1)) wa_nil)))) (pw_or1 (wt_cmp op_dLt (we_var (pv 1)) (we_c pe_int) (nomark _)))))
        (wss_one (ws_raise rfl (takes_of rfl rfl rfl rfl) T.x_NoCount.T T.x_NoCount.iC T.x_NoCount.tI T.x_NoCount.no (ok_told T.x_NoCount.F sc_told rfl rfl rfl) (hr.mono (by decide)) T.x_NoCount.b pass0 rfl T.x_NoCount.m (we_var (pv 1))))
        wss_nil)
      (wss_one (ws_ret (we_op op_dSub (we_op op_dFdivS (we_op op_dAdd (we_var (pv 0)) (we_var (pv 1))) (we_var (pv 1))) (we_c pe_int)))))),
    fun es P Z h => by
      obtain ⟨d, k, rfl, td, tk, hp⟩ := h
      walk_at "red"
      refine ⟨d, rfl, td, ?_⟩
      cases hw : isWithin d 0 600 with
      | false =>
        rw [hw, if_neg Bool.false_ne_true] at hp
        exact ifF rfl hp
      | true =>
        rw [hw, if_pos rfl] at hp
        obtain ⟨last, rfl, hp⟩ := hp
        refine ifT rfl ⟨tk, ?_⟩
        cases k with
        | int j =>
          by_cases hj : 1 ≤ j
          · rw [if_pos (show cntOk (.int j) = true from decide_eq_true hj)] at hp
            obtain ⟨j', e, _, h1, hp⟩ := hp
            cases e
            exact ifF rfl (ifF (decide_eq_false (by omega)) ⟨⟨by omega, by omega⟩, hp⟩)
          · rw [if_neg (show ¬ cntOk (.int j) = true by simp only [cntOk, decide_eq_true_eq]; exact hj)] at hp
            exact ifF rfl (ifT (decide_eq_true (by omega)) hp)
        | _ =>
          first
          | (rw [if_neg (by simp [cntOk])] at hp; exact ifT rfl hp)
          | cases tk⟩)
theorem ok_least_both (T : Txt K mg) : FnOk P w K mg base (L2.CX P w) 5 T.d_least_both.f T.d_least_both.fd ["last", "many"] (spD (needC T.x_NoCount.C (fun last j => .int (((last + j) / j - 1 + 1) / 2)))) :=
  fn_okX T.d_least_both.F sc_least_both (fun es P Z h => by first | exact pure1_len h | exact pure2_len h | exact pure3_len h | (obtain ⟨_, rfl, _⟩ := h; rfl) | (obtain ⟨_, _, rfl, _⟩ := h; rfl) | (obtain ⟨_, _, _, rfl, _⟩ := h; rfl) | (obtain ⟨_, _, _, _, rfl, _⟩ := h; rfl)) (fun cdv A outer s H E hr => ⟨_,
    (wss_one (ws_zret (wz_opL op_dFdivS (wz_opL op_dAdd (we_zcall (ok_least_on T) (hr.mono (by decide)) (takes_of rfl rfl rfl rfl) rfl T.d_least_on.m T.d_least_on.F.kp T.d_least_on.b (wa_cons (we_var (pv 0)) (wa_cons (we_var (pv 1)) wa_nil))) (we_c pe_int)) (we_c pe_int)))),
    fun es P Z h => by
      obtain ⟨d, k, rfl, td, tk, hp⟩ := h
      walk_at "red"
      refine ⟨d, k, rfl, td, tk, ?_⟩
      split
      · rename_i hw
        rw [if_pos hw] at hp
        obtain ⟨last, rfl, hp⟩ := hp
        refine ⟨last, rfl, ?_⟩
        split
        · rename_i hk
          rw [if_pos hk] at hp
          obtain ⟨j, rfl, h1, h2, hp⟩ := hp
          exact ⟨j, rfl, h1, h2, ⟨by decide, by decide⟩, hp⟩
        · rename_i hk
          rw [if_neg hk] at hp
          exact hp
      · rename_i hw
        rw [if_neg hw] at hp
        exact hp⟩)
def qOf (last j : Int) : Int := (last + j) / j
abbrev evenOnD (last j : Int) : D := .tup ((prog 0 (qOf last j) (last / qOf last j + 1).toNat).map D.int)
abbrev evenBothD (last j : Int) : D := .tup ((clip last (prog (qOf last j / 2) (2 * (qOf last j / 2) + 1) (last / (2 * (qOf last j / 2) + 1) + 1).toNat)).map D.int)
theorem within_int {last lo hi : Int} (h : isWithin (.int last) lo hi = true) : lo ≤ last ∧ last ≤ hi := by
  simpa [isWithin] using h
theorem steps_prog (a c : Int) (n : Nat) : stepsD a c n = (prog a c n).map D.int := by
  unfold stepsD
  rw [← prog_map, List.map_map]
  rfl
theorem ok_even_on (T : Txt K mg) : FnOk P w K mg base (L2.CX P w) 5 T.d_even_on.f T.d_even_on.fd ["last", "many"] (spD (needC T.x_NoCount.C evenOnD)) :=
  fn_okX T.d_even_on.F sc_even_on (fun es P Z h => by first | exact pure1_len h | exact pure2_len h | exact pure3_len h | (obtain ⟨_, rfl, _⟩ := h; rfl) | (obtain ⟨_, _, rfl, _⟩ := h; rfl) | (obtain ⟨_, _, _, rfl, _⟩ := h; rfl) | (obtain ⟨_, _, _, _, rfl, _⟩ := h; rfl)) (fun cdv A outer s H E hr => ⟨_,
    (wss_cons (ws_zset (i := 2) sc_even_on.nd rfl (by first | exact .inl rfl | exact .inr rfl) (we_zcall (ok_least_on T) (hr.mono (by decide)) (takes_of rfl rfl rfl rfl) rfl T.d_least_on.m T.d_least_on.F.kp T.d_least_on.b (wa_cons (we_var (pv 0)) (wa_cons (we_var (pv 1)) wa_nil))))
      (wss_one (ws_ret (we_tupRg3 rfl rfl T.n_tuple rfl T.n_range (wa_cons (we_c pe_int) (wa_cons (we_op op_dAdd (we_var (pv 0)) (we_c pe_int)) (wa_cons (we_op op_dAdd (we_var (pv 2)) (we_c pe_int)) wa_nil))))))),
    fun es P Z h => by
      obtain ⟨d, k, rfl, td, tk, hp⟩ := h
      walk_at "red"
      refine ⟨d, k, rfl, td, tk, ?_⟩
      split
      · rename_i hw
        rw [if_pos hw] at hp
        obtain ⟨last, rfl, hp⟩ := hp
        refine ⟨last, rfl, ?_⟩
        split
        · rename_i hk
          rw [if_pos hk] at hp
          obtain ⟨j, rfl, h1, h2, hp⟩ := hp
          obtain ⟨w1, w2⟩ := within_int hw
          obtain ⟨q1, q2, _, _⟩ := q_facts w1 h1
          refine ⟨j, rfl, h1, h2, ?_⟩
          have e : (last + j) / j - 1 + 1 = qOf last j := by unfold qOf; omega
          refine ⟨_, _, _, ⟨rfl, rfl, e⟩, ?_, ?_⟩
          · unfold RgD; unfold qOf; omega
          · rw [steps_prog, show many 0 (last + 1) (qOf last j) = (last / qOf last j + 1).toNat from by
              unfold many
              rw [if_pos (by omega)]
              congr 3
              omega]
            exact hp
        · rename_i hk
          rw [if_neg hk] at hp
          exact hp
      · rename_i hw
        rw [if_neg hw] at hp
        exact hp⟩)
theorem ok_even_both (T : Txt K mg) : FnOk P w K mg base (L2.CX P w) 6 T.d_even_both.f T.d_even_both.fd ["last", "many"] (spD (needC T.x_NoCount.C evenBothD)) :=
  fn_okX T.d_even_both.F sc_even_both (fun es P Z h => by first | exact pure1_len h | exact pure2_len h | exact pure3_len h | (obtain ⟨_, rfl, _⟩ := h; rfl) | (obtain ⟨_, _, rfl, _⟩ := h; rfl) | (obtain ⟨_, _, _, rfl, _⟩ := h; rfl) | (obtain ⟨_, _, _, _, rfl, _⟩ := h; rfl)) (fun cdv A outer s H E hr => ⟨_,
    (wss_cons (ws_zset (i := 2) sc_even_both.nd rfl (by first | exact .inl rfl | exact .inr rfl) (we_zcall (ok_least_both T) (hr.mono (by decide)) (takes_of rfl rfl rfl rfl) rfl T.d_least_both.m T.d_least_both.F.kp T.d_least_both.b (wa_cons (we_var (pv 0)) (wa_cons (we_var (pv 1)) wa_nil))))
      (wss_one (ws_ret (we_callTy call_fTuple rfl T.n_tuple boot_tupleT (wa_cons (we_lc (i := 3) (x := "moment") rfl sc_even_both.nd (wi_rg3 rfl T.n_range (wa_cons (we_var (pv 2)) (wa_cons (we_op op_dAdd (we_op op_dAdd (we_var (pv 0)) (we_var (pv 2))) (we_c pe_int)) (wa_cons (we_op op_dAdd (we_op op_dMulS (we_c pe_int) (we_var (pv 2))) (we_c pe_int)) wa_nil)))) (blkOk_by (N := ["last", "many", "reach", "moment"]) (sc := defScope s_even_both) (by decide +kernel)) (fun _ _ _ _ _ => pg_name sc_even_both.nd rfl (Or.inl rfl)) (fun _ _ _ _ _ => (we_callB (call_fMin rfl) rfl T.n_min boot_minB (wa_cons (we_var (pv 3)) (wa_cons (we_var (pv 0)) wa_nil))))) wa_nil))))),
    fun es P Z h => by
      obtain ⟨d, k, rfl, td, tk, hp⟩ := h
      walk_at "red"
      refine ⟨d, k, rfl, td, tk, ?_⟩
      split
      · rename_i hw
        rw [if_pos hw] at hp
        obtain ⟨last, rfl, hp⟩ := hp
        refine ⟨last, rfl, ?_⟩
        split
        · rename_i hk
          rw [if_pos hk] at hp
          obtain ⟨j, rfl, h1, h2, hp⟩ := hp
          obtain ⟨w1, w2⟩ := within_int hw
          obtain ⟨q1, q2, _, _⟩ := q_facts w1 h1
          obtain ⟨n1, n2, n3, _⟩ := near_facts w1 h1
          refine ⟨j, rfl, h1, h2, ?_⟩
          have e : ((last + j) / j - 1 + 1) / 2 = qOf last j / 2 := by unfold qOf; congr 1; omega
          have hq : 0 ≤ qOf last j / 2 ∧ qOf last j / 2 ≤ last := ⟨n1, n2⟩
          have hm : many (qOf last j / 2) (last + qOf last j / 2 + 1) (2 * (qOf last j / 2) + 1) = (last / (2 * (qOf last j / 2) + 1) + 1).toNat := by
            unfold many
            rw [if_pos (by omega)]
            congr 3
            omega
          have hl : (last / (2 * (qOf last j / 2) + 1) + 1).toNat ≤ 1000 := by
            have : last / (2 * (qOf last j / 2) + 1) ≤ last := Int.ediv_le_self _ w1
            omega
          refine ⟨.inl ⟨by decide, by decide⟩, qOf last j / 2, last + qOf last j / 2 + 1, 2 * (qOf last j / 2) + 1, ⟨congrArg D.int e, by rw [e], by rw [e]⟩, ?_, ?_, ?_⟩
          · unfold RgD; omega
          · rw [steps_prog, List.length_map, prog_len, hm, sizeLine_eq]; omega
          · rw [steps_prog, hm]
            exact each_ints (fun x => if last < x then last else x) (fun a P' h => h) hp
        · rename_i hk
          rw [if_neg hk] at hp
          exact hp
      · rename_i hw
        rw [if_neg hw] at hp
        exact hp⟩)
end
end K19

set_option maxHeartbeats 2000000
namespace K19
open PySem PySem.Spec PyProof.Rows L2 DL
variable [TabCtx]
local macro_rules | `(tactic| walk_at "red") => `(tactic| simp only [wiSeq, seqOf_lst, seqOf_tup, wiAny, wzE, wzOpL, wzIf, gzRet, gzSet, gzDrop, gPar, wLcZ, wiZip, wTupRg3, wiRg3, fMin, fAbs, fMaxL, fMinL, gUn2L, gFor2L, wLcI, wLam3, gSrc, or_false, false_or, exists_false, false_and, and_false, wDc3, gAcc, gSeqH, gForEH, gForE, gForH, gIfH, gLift, gNextH, gAppendH, gAppend, gDone, gSetH, DL.seen, dIsN, dNotN, wDc, wFld, wMeth, wDIn, wDIx, wDGetN, wNew, wzNew, wLcI, gField, gCL, fLenQ, dIxQ, wNeK, wIndex, gTryRet, gTryDrop, wzCall, wzCallL, wTold, fIsE, fRepr, wJoin, wDGet, wVals, dPow, wSrc, gSrcSet, dMulS, dFdivS, fInt, fMax, fTuple, fList, startD, gNext, gSeq, gRet, gSet, gIf, gDrop, gRaise, gFor, wVar, wC, wOp, wTest, wChain, wAnd, wOr, wNot, wtAnd, wtOr, wtNot, wIf, waNil, waCons, wTup, wLst, wCall, quiet, wIsi, wInK, wLc, wiStr, wiTup, wiLst, wiRange, wSl, woNone, woSome, dSl, wNeg, dNeg, fLen, fAll, dEq, dNe, dLe, dLt, dGe, dGt, dAdd, dSub, dMod, dIx, dIn, dIsB, strsOf, boolsOf, DL.tyD_non, at_0, at_1, at_2, at_3, at_4, DL.isInt_non, DL.isStr_non, DL.isBl_non, DL.isTup_non, DL.isLst_non, DL.tyD_bl, DL.isInt_bl, DL.isStr_bl, DL.isBl_bl, DL.isTup_bl, DL.isLst_bl, DL.tyD_int, DL.isInt_int, DL.isStr_int, DL.isBl_int, DL.isTup_int, DL.isLst_int, DL.tyD_str, DL.isInt_str, DL.isStr_str, DL.isBl_str, DL.isTup_str, DL.isLst_str, DL.tyD_lst, DL.isInt_lst, DL.isStr_lst, DL.isBl_lst, DL.isTup_lst, DL.isLst_lst, DL.tyD_tup, DL.isInt_tup, DL.isStr_tup, DL.isBl_tup, DL.isTup_tup, DL.isLst_tup, pure1, pure2, pure3, Option.map_some,
  List.map_cons, List.map_nil, List.length_cons, List.length_nil, List.cons_append, List.nil_append, List.getElem?_cons_zero, List.getElem?_cons_succ, Option.some.injEq, exists_eq_left', exists_eq_left, exists_eq_right, exists_eq_right', D.bl.injEq, D.int.injEq, D.str.injEq, D.tup.injEq, D.lst.injEq, D.fn.injEq, D.sq.injEq, D.exn.injEq, List.cons.injEq, and_true, true_and, and_self, exists_and_left, exists_and_right, Option.isSome_some, List.set_cons_zero, List.set_cons_succ, if_true, Bool.false_eq_true, if_false, Bool.not_true, Bool.not_false, reduceCtorEq, List.replicate, Nat.reduceSub, Nat.reduceAdd])
/-! comprehensions, comparisons -/
theorem eachI_of {α : Type} {T : D → (Bool → Prop) → Prop} {F : D → (D → Prop) → Prop} (e r : α → D) (t : α → Bool) : ∀ {xs : List α} {P : List D → Prop}, (∀ a ∈ xs, ∀ Q : Bool → Prop, Q (t a) → T (e a) Q) → (∀ a ∈ xs, t a = true → ∀ Q : D → Prop, Q (r a) → F (e a) Q) → P ((xs.filter t).map r) → wEachI T F (xs.map e) P := by
  intro xs
  induction xs with
  | nil => intro P _ _ h; exact h
  | cons x xs ih =>
    intro P h1 h2 h
    rw [List.map_cons, wEachI]
    refine h1 x List.mem_cons_self _ ?_
    cases ht : t x with
    | true =>
      rw [if_pos rfl]
      refine h2 x List.mem_cons_self ht _ (ih (fun a ha => h1 a (List.mem_cons_of_mem _ ha)) (fun a ha => h2 a (List.mem_cons_of_mem _ ha)) ?_)
      rw [List.filter_cons_of_pos ht] at h
      exact h
    | false =>
      rw [if_neg Bool.false_ne_true]
      refine ih (fun a ha => h1 a (List.mem_cons_of_mem _ ha)) (fun a ha => h2 a (List.mem_cons_of_mem _ ha)) ?_
      rw [List.filter_cons_of_neg (by rw [ht]; exact Bool.false_ne_true)] at h
      exact h
theorem each_of {α : Type} {F : D → (D → Prop) → Prop} (e r : α → D) : ∀ {xs : List α} {P : List D → Prop}, (∀ a ∈ xs, ∀ Q : D → Prop, Q (r a) → F (e a) Q) → P (xs.map r) → wEach F (xs.map e) P := by
  intro xs
  induction xs with
  | nil => intro P _ h; exact h
  | cons x xs ih =>
    intro P h1 h
    rw [List.map_cons, wEach]
    exact h1 x List.mem_cons_self _ (ih (fun a ha => h1 a (List.mem_cons_of_mem _ ha)) h)
abbrev tupI (ns : List Int) : D := .tup (ns.map D.int)
theorem pls_ints : ∀ ns : List Int, D.pls (ns.map D.int) = true
  | [] => rfl
  | x :: r => by rw [List.map_cons, D.pls, pls_ints r]; rfl
theorem lays_ints : ∀ ns : List Int, PyData.canLayAll0 (D.pys (ns.map D.int)) = true
  | [] => rfl
  | x :: r => by rw [List.map_cons, D.pys, PyData.canLayAll0, lays_ints r]; rfl
theorem depth_ints : ∀ ns : List Int, PyData.depthAll (D.pys (ns.map D.int)) = 0 ∨ PyData.depthAll (D.pys (ns.map D.int)) ≤ 1
  | [] => .inl rfl
  | x :: r => by
    rw [List.map_cons, D.pys, PyData.depthAll]
    have h1 := depth_ints r
    have h2 : (D.int x).py.depth ≤ 1 := by unfold D.py PyData.depth; omega
    right
    omega
theorem okEq_tupI (ns : List Int) : okEq (tupI ns) := by
  refine ⟨by unfold D.pl; exact pls_ints ns, ?_⟩
  unfold D.py SeqAt.shaped
  rw [Bool.and_eq_true]
  refine ⟨by unfold PyData.canLay0; exact lays_ints ns, ?_⟩
  have := depth_ints ns
  simp only [decide_eq_true_eq]
  unfold PyData.depth
  omega
theorem eqvAll_ints : ∀ a b : List Int, PyData.eqvAll (D.pys (a.map D.int)) (D.pys (b.map D.int)) = decide (a = b)
  | [], [] => by simp [D.pys, PyData.eqvAll]
  | [], _ :: _ => by simp [D.pys, PyData.eqvAll]
  | _ :: _, [] => by simp [D.pys, PyData.eqvAll]
  | x :: a, y :: b => by
    rw [List.map_cons, List.map_cons, D.pys, D.pys, PyData.eqvAll, eqvAll_ints a b]
    have : PyData.eqv (D.int x).py (D.int y).py = decide (x = y) := eqD_int x y
    rw [this]
    by_cases h1 : x = y <;> by_cases h2 : a = b <;> simp [h1, h2]
theorem eqD_tupI (a b : List Int) : eqD (tupI a) (tupI b) = decide (a = b) := by
  unfold eqD D.py PyData.eqv
  exact eqvAll_ints a b
theorem intsD_get {n j : Nat} {x : D} (h : (intsD n)[j]? = some x) : j < n ∧ x = .int (j : Int) := by
  unfold intsD at h
  rw [List.getElem?_map] at h
  by_cases hj : j < n
  · rw [List.getElem?_range hj] at h
    exact ⟨hj, (Option.some.inj h).symm⟩
  · rw [List.getElem?_eq_none (by simpa using hj)] at h
    cases h
theorem ints_mapF {α : Type} (f : α → Int) : ∀ xs : List α, intsOf (xs.map fun a => D.int (f a)) = some (xs.map f)
  | [] => rfl
  | x :: r => by
    rw [List.map_cons, intsOf, ints_mapF f r]
    rfl
theorem len_map {α β : Type} {f : α → β} {xs : List α} (h : xs.length ≤ 1000) : (xs.map f).length < sizeLine := by
  rw [List.length_map, sizeLine_eq]; omega
section
variable {P : Program} {w : World} {K : PySem.W.Frag} {mg : Str → Option Value} {base : Heap}
def fTake : DFn := fun es P => ∃ p top, es = [.src p, .int top] ∧ 0 < top ∧ top < 1073741824 ∧ ∀ r : Int, 0 ≤ r → r < top → P (.int r)
theorem ok_ltake (T : Txt K mg) : FnOk P w K mg base CX0 1 T.d_ltake.f T.d_ltake.fd ["_law_source", "_law_top"] (spD fun es P _ => (fTake) es P) :=
  fn_ok T.d_ltake.F sc_ltake (fun es P h => by first | exact pure1_len h | exact pure2_len h | exact pure3_len h | (obtain ⟨_, rfl, _⟩ := h; rfl) | (obtain ⟨_, _, rfl, _⟩ := h; rfl) | (obtain ⟨_, _, _, rfl, _⟩ := h; rfl) | (obtain ⟨_, _, _, _, rfl, _⟩ := h; rfl)) (fun cdv A outer s H E hr => ⟨_,
    (wss_cons (ws_if (wt_cmp op_dGt (we_src (pv 0)) (we_c pe_int) (nomark _))
        (wss_cons (ws_set (i := 2) sc_ltake.nd rfl (by first | exact .inl rfl | exact .inr rfl) (we_op op_dMod (we_callTy call_fInt rfl T.n_int boot_intT (wa_cons (we_src (pv 0)) wa_nil)) (we_var (pv 1))))
        (wss_cons (ws_srcSet (pv 0) (we_op op_dFdivS (we_src (pv 0)) (we_var (pv 1))))
        (wss_one (ws_ret (we_var (pv 2))))))
        wss_nil)
      (wss_cons (ws_srcSet (pv 0) (we_op op_dMod (we_callTy call_fInt rfl T.n_int boot_intT (wa_cons (we_op op_dAdd (we_op op_dMulS (we_src (pv 0)) (we_c pe_int)) (we_c pe_int)) wa_nil)) (we_c pe_int)))
      (wss_one (ws_ret (we_op op_dMod (we_callTy call_fInt rfl T.n_int boot_intT (wa_cons (we_op op_dFdivS (we_op op_dMod (we_callTy call_fInt rfl T.n_int boot_intT (wa_cons (we_op op_dMulS (we_src (pv 0)) (we_src (pv 0))) wa_nil)) (we_c pe_int)) (we_c pe_int)) wa_nil)) (we_var (pv 1))))))),
    fun es P h => by
      obtain ⟨p, top, rfl, h0, h1, hp⟩ := h
      walk_at "red"
      have hs : ∀ n : Int, SrcN 1 n → 0 ≤ n ∧ n < 2147483647 := fun n hn => by
        rcases hn with z | z
        · cases z
        · exact z.2
      have hr : ∀ n : Int, P (.int (n % top)) := fun n => hp _ (Int.emod_nonneg _ (by omega)) (Int.emod_lt_of_pos _ h0)
      refine ⟨.inl trivial, ⟨p, rfl⟩, fun n _ => ?_⟩
      by_cases hn : 0 < n
      · exact ifT (decide_eq_true hn) ⟨.inl trivial, ⟨p, rfl⟩, fun m _ => ⟨h0, .inl trivial, ⟨p, rfl⟩, fun q _ => ⟨⟨h0, h1⟩, .inl trivial, ⟨p, rfl⟩, .inl rfl, hr m⟩⟩⟩
      · refine ifF (decide_eq_false hn) ⟨.inr trivial, ⟨p, rfl⟩, fun m hm => ⟨.inr ⟨by decide, by decide⟩, by decide, .inr trivial, ⟨p, rfl⟩, .inr ⟨rfl, Int.emod_nonneg _ (by decide), Int.emod_lt_of_pos _ (by decide)⟩, .inr trivial, ⟨p, rfl⟩, fun a ha => ⟨.inr trivial, ⟨p, rfl⟩, fun b hb => ?_⟩⟩⟩
        have := hs b hb
        exact ⟨.inr ⟨by omega, by omega⟩, by decide, ⟨by decide, by decide⟩, h0, hr _⟩⟩)
def fOne : DFn := fun es P => ∃ p xs, es = [.src p, .lst xs] ∧ xs ≠ [] ∧ xs.length ≤ 1000 ∧ ∀ d ∈ xs, P d
theorem ok_lone (T : Txt K mg) : FnOk P w K mg base CX0 2 T.d_lone.f T.d_lone.fd ["_law_source", "_law_things"] (spD fun es P _ => (fOne) es P) :=
  fn_ok T.d_lone.F sc_lone (fun es P h => by first | exact pure1_len h | exact pure2_len h | exact pure3_len h | (obtain ⟨_, rfl, _⟩ := h; rfl) | (obtain ⟨_, _, rfl, _⟩ := h; rfl) | (obtain ⟨_, _, _, rfl, _⟩ := h; rfl) | (obtain ⟨_, _, _, _, rfl, _⟩ := h; rfl)) (fun cdv A outer s H E hr => ⟨_,
    (wss_one (ws_ret (we_ix (we_var (pv 1)) (we_call (ok_ltake T) (hr.mono (by decide)) rfl T.d_ltake.m T.d_ltake.F.kp T.d_ltake.b (wa_cons (we_var (pv 0)) (wa_cons (we_callB call_fLen rfl T.n_len boot_lenB (wa_cons (we_var (pv 1)) wa_nil)) wa_nil)))))),
    fun es P h => by
      obtain ⟨p, xs, rfl, h0, h1, hp⟩ := h
      have hl : 0 < xs.length := List.length_pos_iff.mpr h0
      walk_at "red"
      refine ⟨p, xs.length, rfl, by omega, by omega, fun r r0 r1 => ?_⟩
      obtain ⟨d, e, m⟩ := at_some r0 r1
      exact ⟨d, e, hp d m⟩⟩)
def farTo (j : Nat) (ns : List Int) (both : Bool) : Int := (List.range j).foldl (fun m (t : Nat) => let s := minI (stepsI t ns both); if s > m then s else m) 0
theorem farTo_succ (j : Nat) (ns : List Int) (both : Bool) : farTo (j + 1) ns both = if minI (stepsI j ns both) > farTo j ns both then minI (stepsI j ns both) else farTo j ns both := by
  unfold farTo
  rw [List.range_succ, List.foldl_append]
  rfl
def fFar : DFn := fun es P => ∃ (last : Nat) (m : D) (ns : List Int) (both : Bool), es = [.int last, m, .bl both] ∧ seqInt m ns ∧ last ≤ 600 ∧ ns.length ≤ 1000 ∧ ns ≠ [] ∧ (both = false → ∃ o ∈ ns, o ≤ 0) ∧ P (.int (farI last ns both))
theorem ok_lfar (T : Txt K mg) : FnOk P w K mg base CX0 1 T.d_lfar.f T.d_lfar.fd ["_law_last", "_law_some", "_law_both"] (spD fun es P _ => (fFar) es P) :=
  fn_ok T.d_lfar.F sc_lfar (fun es P h => by first | exact pure1_len h | exact pure2_len h | exact pure3_len h | (obtain ⟨_, rfl, _⟩ := h; rfl) | (obtain ⟨_, _, rfl, _⟩ := h; rfl) | (obtain ⟨_, _, _, rfl, _⟩ := h; rfl) | (obtain ⟨_, _, _, _, rfl, _⟩ := h; rfl)) (fun cdv A outer s H E hr => ⟨_,
    (wss_cons (ws_set (i := 3) sc_lfar.nd rfl (by first | exact .inl rfl | exact .inr rfl) (we_c pe_int))
      (wss_cons (ws_for (x := "") PassesOwn.never rfl (wi_range rfl T.n_range (we_op op_dAdd (we_var (pv 0)) (we_c pe_int))) (pg_name (i := 4) sc_lfar.nd rfl (by first | exact .inl rfl | exact .inr rfl))
        (wss_cons (ws_setLcI (i := 5) (i1 := 6) (x1 := "_law_one_here") rfl sc_lfar.nd rfl rfl (wi_sq (we_var (pv 1))) (blkOk_by (N := ["_law_last", "_law_some", "_law_both", "_law_most", "_law_t", "_law_steps", "_law_one_here", "_law_step"]) (sc := defScope s_lfar) (by decide +kernel)) (fun _ _ _ _ _ => pg_name sc_lfar.nd rfl (Or.inl rfl)) (fun _ _ _ _ _ => (wt_cmp op_dLe (we_var (pv 6)) (we_var (pv 4)) (nomark _))) (fun _ _ _ _ _ => (we_op op_dSub (we_var (pv 4)) (we_var (pv 6)))))
        (wss_cons (ws_if (wt_val (we_var (pv 2)))
          (wss_one (ws_setLc (i := 5) (i1 := 6) (x1 := "_law_one_here") rfl sc_lfar.nd rfl rfl (wi_sq (we_var (pv 1))) (blkOk_by (N := ["_law_last", "_law_some", "_law_both", "_law_most", "_law_t", "_law_steps", "_law_one_here", "_law_step"]) (sc := defScope s_lfar) (by decide +kernel)) (fun _ _ _ _ _ => pg_name sc_lfar.nd rfl (Or.inl rfl)) (fun _ _ _ _ _ => (we_callB call_fAbs rfl T.n_abs boot_absB (wa_cons (we_op op_dSub (we_var (pv 4)) (we_var (pv 6))) wa_nil)))))
          wss_nil)
        (wss_one (ws_set (i := 3) sc_lfar.nd rfl (by first | exact .inl rfl | exact .inr rfl) (we_callB (call_fMax rfl) rfl T.n_max boot_maxB (wa_cons (we_callTy call_fInt rfl T.n_int boot_intT (wa_cons (we_var (pv 3)) wa_nil)) (wa_cons (we_callB (call_fMinL rfl) rfl T.n_min boot_minB (wa_cons (we_lc (i := 7) (x := "_law_step") rfl sc_lfar.nd (wi_sq (we_var (pv 5))) (blkOk_by (N := ["_law_last", "_law_some", "_law_both", "_law_most", "_law_t", "_law_steps", "_law_one_here", "_law_step"]) (sc := defScope s_lfar) (by decide +kernel)) (fun _ _ _ _ _ => pg_name sc_lfar.nd rfl (Or.inl rfl)) (fun _ _ _ _ _ => (we_callTy call_fInt rfl T.n_int boot_intT (wa_cons (we_var (pv 7)) wa_nil)))) wa_nil)) wa_nil))))))))
      (wss_one (ws_ret (we_var (pv 3)))))),
    fun es P h => by
      obtain ⟨last, m, ns, both, rfl, hm, hl, hn, h0, hz, hp⟩ := h
      have hsq := seqOf_int hm
      walk_at "red"
      refine ⟨by omega, by omega, fun j ds => ∃ x4 x5 x6 x7, ds = [some (.int last), some m, some (.bl both), some (.int (farTo j ns both)), x4, x5, x6, x7], ⟨_, _, _, _, rfl⟩, ?_, ?_⟩
      · rintro j x ds' hx ⟨x4, x5, x6, x7, rfl⟩
        obtain ⟨hj, rfl⟩ := intsD_get hx
        walk_at "red"
        refine ⟨_, hsq, len_map hn, eachI_of D.int (fun o => .int ((j : Int) - o)) (fun o => decide (o ≤ (j : Int))) (fun a _ Q h => h) (fun a _ _ Q h => h) ?_⟩
        cases both with
        | true =>
          have e : stepsI j ns true = ns.map (fun o => if (j : Int) - o < 0 then -((j : Int) - o) else (j : Int) - o) := by unfold stepsI; rw [if_pos rfl]
          refine ifT rfl ⟨_, hsq, len_map hn, each_of D.int (fun o => .int (if (j : Int) - o < 0 then -((j : Int) - o) else (j : Int) - o)) (fun a _ Q h => h) ⟨len_map hn, each_of (fun o : Int => .int (if (j : Int) - o < 0 then -((j : Int) - o) else (j : Int) - o)) (fun o => .int (if (j : Int) - o < 0 then -((j : Int) - o) else (j : Int) - o)) (fun a _ Q h => h) ⟨_, ints_mapF _ _, ?_⟩⟩⟩
          rw [← e]
          refine ⟨by rw [e]; simpa using h0, fun z h1 h2 => ?_⟩
          rw [farTo_succ, minI_eq h1 h2]
        | false =>
          have e : stepsI j ns false = (ns.filter fun o => decide (o ≤ (j : Int))).map (fun o => (j : Int) - o) := by unfold stepsI; rw [if_neg Bool.false_ne_true]
          have hf : (ns.filter fun o => decide (o ≤ (j : Int))).length ≤ 1000 := Nat.le_trans (List.length_filter_le _ _) hn
          refine ifF rfl ⟨len_map hf, each_of (fun o : Int => .int ((j : Int) - o)) (fun o => .int ((j : Int) - o)) (fun a _ Q h => h) ⟨_, ints_mapF _ _, ?_⟩⟩
          rw [← e]
          refine ⟨?_, fun z h1 h2 => ?_⟩
          · obtain ⟨o, ho, hz⟩ := hz rfl
            rw [e]
            exact List.ne_nil_of_mem (List.mem_map.mpr ⟨o, List.mem_filter.mpr ⟨ho, decide_eq_true (by omega)⟩, rfl⟩)
          · rw [farTo_succ, minI_eq h1 h2]
      · rintro ds' ⟨x4, x5, x6, x7, rfl⟩
        refine ⟨_, rfl, ?_⟩
        have e : (intsD ((last : Int) + 1).toNat).length = last + 1 := by rw [intsD_len]; omega
        rw [e]
        exact hp⟩)
end
end K19

set_option maxHeartbeats 2000000
namespace K19
open PySem PySem.Spec PyProof.Rows L2 DL
variable [TabCtx]
local macro_rules | `(tactic| walk_at "red") => `(tactic| simp only [wiSeq, seqOf_lst, seqOf_tup, wiAny, wzE, wzOpL, wzIf, gzRet, gzSet, gzDrop, gPar, wLcZ, wiZip, wTupRg3, wiRg3, fMin, fAbs, fMaxL, fMinL, gUn2L, gFor2L, wLcI, wLam3, gSrc, or_false, false_or, exists_false, false_and, and_false, wDc3, gAcc, gSeqH, gForEH, gForE, gForH, gIfH, gLift, gNextH, gAppendH, gAppend, gDone, gSetH, DL.seen, dIsN, dNotN, wDc, wFld, wMeth, wDIn, wDIx, wDGetN, wNew, wzNew, wLcI, gField, gCL, fLenQ, dIxQ, wNeK, wIndex, gTryRet, gTryDrop, wzCall, wzCallL, wTold, fIsE, fRepr, wJoin, wDGet, wVals, dPow, wSrc, gSrcSet, dMulS, dFdivS, fInt, fMax, fTuple, fList, startD, gNext, gSeq, gRet, gSet, gIf, gDrop, gRaise, gFor, wVar, wC, wOp, wTest, wChain, wAnd, wOr, wNot, wtAnd, wtOr, wtNot, wIf, waNil, waCons, wTup, wLst, wCall, quiet, wIsi, wInK, wLc, wiStr, wiTup, wiLst, wiRange, wSl, woNone, woSome, dSl, wNeg, dNeg, fLen, fAll, dEq, dNe, dLe, dLt, dGe, dGt, dAdd, dSub, dMod, dIx, dIn, dIsB, strsOf, boolsOf, DL.tyD_non, at_0, at_1, at_2, at_3, at_4, DL.isInt_non, DL.isStr_non, DL.isBl_non, DL.isTup_non, DL.isLst_non, DL.tyD_bl, DL.isInt_bl, DL.isStr_bl, DL.isBl_bl, DL.isTup_bl, DL.isLst_bl, DL.tyD_int, DL.isInt_int, DL.isStr_int, DL.isBl_int, DL.isTup_int, DL.isLst_int, DL.tyD_str, DL.isInt_str, DL.isStr_str, DL.isBl_str, DL.isTup_str, DL.isLst_str, DL.tyD_lst, DL.isInt_lst, DL.isStr_lst, DL.isBl_lst, DL.isTup_lst, DL.isLst_lst, DL.tyD_tup, DL.isInt_tup, DL.isStr_tup, DL.isBl_tup, DL.isTup_tup, DL.isLst_tup, pure1, pure2, pure3, Option.map_some,
  List.map_cons, List.map_nil, List.length_cons, List.length_nil, List.cons_append, List.nil_append, List.getElem?_cons_zero, List.getElem?_cons_succ, Option.some.injEq, exists_eq_left', exists_eq_left, exists_eq_right, exists_eq_right', D.bl.injEq, D.int.injEq, D.str.injEq, D.tup.injEq, D.lst.injEq, D.fn.injEq, D.sq.injEq, D.exn.injEq, List.cons.injEq, and_true, true_and, and_self, exists_and_left, exists_and_right, Option.isSome_some, List.set_cons_zero, List.set_cons_succ, if_true, Bool.false_eq_true, if_false, Bool.not_true, Bool.not_false, reduceCtorEq, List.replicate, Nat.reduceSub, Nat.reduceAdd])
def chTo (j many : Nat) : List (List Int) := (List.range j).foldl (fun lots (t : Nat) => lots ++ (lots.filter fun l => decide ((l.length : Int) < many)).map fun l => l ++ [(t : Int)]) [[]]
theorem chTo_succ (j many : Nat) : chTo (j + 1) many = chTo j many ++ ((chTo j many).filter fun l => decide ((l.length : Int) < many)).map fun l => l ++ [(j : Int)] := by
  unfold chTo
  rw [List.range_succ, List.foldl_append]
  rfl
theorem chTo_len : ∀ j ∈ List.range 10, ∀ many ∈ [1, 2, 3, 4], (chTo j many).length ≤ 500 ∧ (chTo j many).all (fun l => decide (l.length ≤ 9)) = true := by decide +kernel
section
variable {P : Program} {w : World} {K : PySem.W.Frag} {mg : Str → Option Value} {base : Heap}
def fChoices : DFn := fun es P => ∃ (last many : Nat), es = [.int last, .int many] ∧ last ∈ List.range 9 ∧ many ∈ [1, 2, 3, 4] ∧ P (.lst ((choicesI last many).map tupI))
theorem ok_lchoices (T : Txt K mg) : FnOk P w K mg base CX0 1 T.d_lchoices.f T.d_lchoices.fd ["_law_last", "_law_many"] (spD fun es P _ => (fChoices) es P) :=
  fn_ok T.d_lchoices.F sc_lchoices (fun es P h => by first | exact pure1_len h | exact pure2_len h | exact pure3_len h | (obtain ⟨_, rfl, _⟩ := h; rfl) | (obtain ⟨_, _, rfl, _⟩ := h; rfl) | (obtain ⟨_, _, _, rfl, _⟩ := h; rfl) | (obtain ⟨_, _, _, _, rfl, _⟩ := h; rfl)) (fun cdv A outer s H E hr => ⟨_,
    (wss_cons (ws_set (i := 2) sc_lchoices.nd rfl (by first | exact .inl rfl | exact .inr rfl) (we_lst (wa_cons (we_tup wa_nil) wa_nil)))
      (wss_cons (ws_for (x := "") PassesOwn.never rfl (wi_range rfl T.n_range (we_op op_dAdd (we_var (pv 0)) (we_c pe_int))) (pg_name (i := 3) sc_lchoices.nd rfl (by first | exact .inl rfl | exact .inr rfl))
        (wss_one (ws_set (i := 2) sc_lchoices.nd rfl (by first | exact .inl rfl | exact .inr rfl) (we_op op_dAdd (we_var (pv 2)) (we_lci (i := 4) (x := "_law_lot") rfl sc_lchoices.nd (wi_sq (we_var (pv 2))) (blkOk_by (N := ["_law_last", "_law_many", "_law_lots", "_law_t", "_law_lot"]) (sc := defScope s_lchoices) (by decide +kernel)) (fun _ _ _ _ _ => pg_name sc_lchoices.nd rfl (Or.inl rfl)) (fun _ _ _ _ _ => (wt_cmp op_dLt (we_callB call_fLen rfl T.n_len boot_lenB (wa_cons (we_var (pv 4)) wa_nil)) (we_var (pv 1)) (nomark _))) (fun _ _ _ _ _ => (we_op op_dAdd (we_var (pv 4)) (we_tup (wa_cons (we_var (pv 3)) wa_nil)))))))))
      (wss_one (ws_ret (we_lci (i := 4) (x := "_law_lot") rfl sc_lchoices.nd (wi_sq (we_var (pv 2))) (blkOk_by (N := ["_law_last", "_law_many", "_law_lots", "_law_t", "_law_lot"]) (sc := defScope s_lchoices) (by decide +kernel)) (fun _ _ _ _ _ => pg_name sc_lchoices.nd rfl (Or.inl rfl)) (fun _ _ _ _ _ => (wt_cmp (op_dNe hr.units) (we_var (pv 4)) (we_tup wa_nil) (nomark _))) (fun _ _ _ _ _ => (we_var (pv 4)))))))),
    fun es P h => by
      obtain ⟨last, many, rfl, hl, hm, hp⟩ := h
      have hl' := List.mem_range.mp hl
      walk_at "red"
      refine ⟨line_big (by omega), line_big (by omega), by omega, by omega, fun j ds => j ≤ last + 1 ∧ ∃ x3 x4, ds = [some (.int last), some (.int many), some (.lst ((chTo j many).map tupI)), x3, x4], ⟨by omega, _, _, rfl⟩, ?_, ?_⟩
      · rintro j x ds' hx ⟨hj1, x3, x4, rfl⟩
        obtain ⟨hj, rfl⟩ := intsD_get hx
        obtain ⟨hlen, hall⟩ := chTo_len j (List.mem_range.mpr (by omega)) many hm
        walk_at "red"
        have lm : ∀ l ∈ chTo j many, l.length ≤ 9 := fun l hl => by simpa using List.all_eq_true.mp hall l hl
        refine ⟨len_map (by omega), eachI_of tupI (fun l => tupI (l ++ [(j : Int)])) (fun l => decide ((l.length : Int) < many)) (fun l hl Q h => ?_) (fun l hl _ Q h => ?_) ⟨?_, by omega, ?_⟩⟩
        · show Q (decide (((l.map D.int).length : Int) < many))
          rw [List.length_map]
          exact h
        · refine ⟨line_big (by omega), line_big ?_, ?_⟩
          · have := lm l hl
            simp only [List.length_map, List.length_cons, List.length_nil]
            omega
          · show Q (.tup (l.map D.int ++ [D.int j]))
            rw [show l.map D.int ++ [D.int (j : Int)] = (l ++ [(j : Int)]).map D.int by simp]
            exact h
        · have := List.length_filter_le (fun l : List Int => decide ((l.length : Int) < many)) (chTo j many)
          rw [sizeLine_eq]
          simp only [List.length_map]
          omega
        · rw [chTo_succ, List.map_append, List.map_map]
          rfl
      · rintro ds' ⟨_, x3, x4, rfl⟩
        have e : (intsD ((last : Int) + 1).toNat).length = last + 1 := by rw [intsD_len]; omega
        rw [e]
        obtain ⟨hlen, hall⟩ := chTo_len (last + 1) (List.mem_range.mpr (by omega)) many hm
        walk_at "red"
        refine ⟨len_map (by omega), eachI_of tupI tupI (fun l => !l.isEmpty) (fun l hl Q h => ⟨Nat.zero_le _, okEq_tupI l, okEq_tupI [], ?_⟩) (fun l hl _ Q h => h) hp⟩
        have z : eqD (tupI l) (.tup []) = decide (l = []) := eqD_tupI l []
        rw [show eqD (tupI l) (D.tup []) = l.isEmpty from by rw [z]; cases l <;> rfl]
        exact h⟩)
end
theorem range_cut {last q : Int} (h0 : 0 ≤ last) (hq : 1 ≤ q) (n : Nat) (hn : last < n) : (List.range n).filter (fun (k : Nat) => decide (q * (k : Int) ≤ last)) = List.range (last / q + 1).toNat := by
  have hd : last / q ≤ last := Int.ediv_le_self _ h0
  have hd0 : 0 ≤ last / q := Int.ediv_nonneg h0 (by omega)
  rw [← filter_range (last / q + 1).toNat n (by omega)]
  apply List.filter_congr
  intro k _
  have e : q * (k : Int) ≤ last ↔ (k : Int) ≤ last / q := by
    rw [Int.le_ediv_iff_mul_le (by omega), Int.mul_comm]
  by_cases h : q * (k : Int) ≤ last
  · rw [decide_eq_true h, decide_eq_true]
    have := e.mp h
    omega
  · rw [decide_eq_false h, decide_eq_false]
    intro z
    exact h (e.mpr (by omega))
theorem first_eq {last q : Int} (h0 : 0 ≤ last) (hq : 1 ≤ q) (n : Nat) (hn : last < n) : ((List.range n).filter (fun (k : Nat) => decide (q * (k : Int) ≤ last))).map (fun (k : Nat) => D.int (q * (k : Int))) = (prog 0 q (last / q + 1).toNat).map D.int := by
  rw [range_cut h0 hq n hn, ← prog_map, List.map_map]
  apply List.map_congr_left
  intro k _
  simp only [Function.comp]
  rw [Int.mul_comm]
  simp
theorem second_eq {last near : Int} (h0 : 0 ≤ last) (hq : 0 ≤ near) (n : Nat) (hn : last < n) : ((List.range n).filter (fun (k : Nat) => decide (near + (2 * near + 1) * (k : Int) ≤ last + near))).map (fun (k : Nat) => D.int (if last < near + (2 * near + 1) * (k : Int) then last else near + (2 * near + 1) * (k : Int))) =
    (clip last (prog near (2 * near + 1) (last / (2 * near + 1) + 1).toNat)).map D.int := by
  have e : (fun (k : Nat) => decide (near + (2 * near + 1) * (k : Int) ≤ last + near)) = fun (k : Nat) => decide ((2 * near + 1) * (k : Int) ≤ last) := by
    funext k
    by_cases h : (2 * near + 1) * (k : Int) ≤ last
    · rw [decide_eq_true h, decide_eq_true (by omega)]
    · rw [decide_eq_false h, decide_eq_false (by omega)]
  rw [e, range_cut h0 (by omega) n hn, ← prog_map, clip, List.map_map, List.map_map]
  apply List.map_congr_left
  intro k _
  simp only [Function.comp]
  rw [Int.mul_comm]
section
variable {P : Program} {w : World} {K : PySem.W.Frag} {mg : Str → Option Value} {base : Heap}
def fEvens : DFn := fun es P => ∃ last j : Int, es = [.int last, .int j] ∧ 0 ≤ last ∧ last ≤ 600 ∧ 1 ≤ j ∧ j ≤ 1000 ∧ P (.lst [evenOnD last j, evenBothD last j])
theorem ok_levens (T : Txt K mg) : FnOk P w K mg base CX0 6 T.d_levens.f T.d_levens.fd ["_law_last", "_law_many"] (spD fun es P _ => (fEvens) es P) :=
  fn_ok T.d_levens.F sc_levens (fun es P h => by first | exact pure1_len h | exact pure2_len h | exact pure3_len h | (obtain ⟨_, rfl, _⟩ := h; rfl) | (obtain ⟨_, _, rfl, _⟩ := h; rfl) | (obtain ⟨_, _, _, rfl, _⟩ := h; rfl) | (obtain ⟨_, _, _, _, rfl, _⟩ := h; rfl)) (fun cdv A outer s H E hr => ⟨_,
    (wss_cons (ws_set (i := 2) sc_levens.nd rfl (by first | exact .inl rfl | exact .inr rfl) (we_op op_dAdd (we_callX (ok_least_on T) (hr.mono (by decide)) rfl T.d_least_on.m T.d_least_on.F.kp T.d_least_on.b (wa_cons (we_var (pv 0)) (wa_cons (we_var (pv 1)) wa_nil))) (we_c pe_int)))
      (wss_cons (ws_setLcI (i := 3) (i1 := 6) (x1 := "_law_k") rfl sc_levens.nd rfl rfl (wi_range rfl T.n_range (we_op op_dAdd (we_var (pv 0)) (we_c pe_int))) (blkOk_by (N := ["_law_last", "_law_many", "_law_step", "_law_first", "_law_near", "_law_second", "_law_k", "_law_one_here"]) (sc := defScope s_levens) (by decide +kernel)) (fun _ _ _ _ _ => pg_name sc_levens.nd rfl (Or.inl rfl)) (fun _ _ _ _ _ => (wt_cmp op_dLe (we_op op_dMulS (we_var (pv 2)) (we_var (pv 6))) (we_var (pv 0)) (nomark _))) (fun _ _ _ _ _ => (we_op op_dMulS (we_var (pv 2)) (we_var (pv 6)))))
      (wss_cons (ws_set (i := 4) sc_levens.nd rfl (by first | exact .inl rfl | exact .inr rfl) (we_callX (ok_least_both T) (hr.mono (by decide)) rfl T.d_least_both.m T.d_least_both.F.kp T.d_least_both.b (wa_cons (we_var (pv 0)) (wa_cons (we_var (pv 1)) wa_nil))))
      (wss_cons (ws_setLc (i := 5) (i1 := 6) (x1 := "_law_k") rfl sc_levens.nd rfl rfl (wi_range rfl T.n_range (we_op op_dAdd (we_var (pv 0)) (we_c pe_int))) (blkOk_by (N := ["_law_last", "_law_many", "_law_step", "_law_first", "_law_near", "_law_second", "_law_k", "_law_one_here"]) (sc := defScope s_levens) (by decide +kernel)) (fun _ _ _ _ _ => pg_name sc_levens.nd rfl (Or.inl rfl)) (fun _ _ _ _ _ => (we_op op_dAdd (we_var (pv 4)) (we_op op_dMulS (we_op op_dAdd (we_op op_dMulS (we_c pe_int) (we_var (pv 4))) (we_c pe_int)) (we_var (pv 6))))))
      (wss_cons (ws_setLcI (i := 5) (i1 := 7) (x1 := "_law_one_here") rfl sc_levens.nd rfl rfl (wi_sq (we_var (pv 5))) (blkOk_by (N := ["_law_last", "_law_many", "_law_step", "_law_first", "_law_near", "_law_second", "_law_k", "_law_one_here"]) (sc := defScope s_levens) (by decide +kernel)) (fun _ _ _ _ _ => pg_name sc_levens.nd rfl (Or.inl rfl)) (fun _ _ _ _ _ => (wt_cmp op_dLe (we_var (pv 7)) (we_op op_dAdd (we_var (pv 0)) (we_var (pv 4))) (nomark _))) (fun _ _ _ _ _ => (we_callB (call_fMin rfl) rfl T.n_min boot_minB (wa_cons (we_callTy call_fInt rfl T.n_int boot_intT (wa_cons (we_var (pv 7)) wa_nil)) (wa_cons (we_callTy call_fInt rfl T.n_int boot_intT (wa_cons (we_var (pv 0)) wa_nil)) wa_nil)))))
      (wss_one (ws_ret (we_lst (wa_cons (we_callTy call_fTuple rfl T.n_tuple boot_tupleT (wa_cons (we_var (pv 3)) wa_nil)) (wa_cons (we_callTy call_fTuple rfl T.n_tuple boot_tupleT (wa_cons (we_var (pv 5)) wa_nil)) wa_nil)))))))))),
    fun es P h => by
      obtain ⟨last, j, rfl, h0, h1, h2, h3, hp⟩ := h
      walk_at "red"
      have hw : isWithin (.int last) 0 600 = true := by simp [isWithin, h0, h1]
      have hc : cntOk (.int j) = true := decide_eq_true h2
      refine ⟨_, _, rfl, rfl, rfl, ifT hw ⟨last, rfl, ifT hc ⟨j, rfl, h2, h3, ?_⟩⟩⟩
      obtain ⟨q1, q2, _, _⟩ := q_facts h0 h2
      obtain ⟨n1, n2, n3, _⟩ := near_facts h0 h2
      have eq : (last + j) / j - 1 + 1 = qOf last j := by unfold qOf; omega
      have en : ((last + j) / j - 1 + 1) / 2 = qOf last j / 2 := by rw [eq]
      have b1 : 1 ≤ qOf last j ∧ qOf last j ≤ last + 1 := ⟨q1, q2⟩
      have b2 : 0 ≤ qOf last j / 2 ∧ qOf last j / 2 ≤ last := ⟨n1, n2⟩
      show (_ ∧ _)
      refine ⟨by omega, by omega, by rw [intsD_len, sizeLine_eq]; omega, eachI_of (fun (k : Nat) => .int (k : Int)) (fun (k : Nat) => .int (qOf last j * (k : Int))) (fun (k : Nat) => decide (qOf last j * (k : Int) ≤ last)) (fun k _ Q h => ?_) (fun k _ _ Q h => ?_) ?_⟩
      · show CMul ((last + j) / j - 1 + 1) (k : Int) ∧ Q (decide (((last + j) / j - 1 + 1) * (k : Int) ≤ last))
        rw [eq]
        exact ⟨.inl ⟨by omega, by omega⟩, h⟩
      · show CMul ((last + j) / j - 1 + 1) (k : Int) ∧ Q (.int (((last + j) / j - 1 + 1) * (k : Int)))
        rw [eq]
        exact ⟨.inl ⟨by omega, by omega⟩, h⟩
      rw [first_eq h0 b1.1 _ (by omega)]
      refine ⟨_, _, rfl, rfl, rfl, ifT hw ⟨last, rfl, ifT hc ⟨j, rfl, h2, h3, ?_⟩⟩⟩
      dsimp only
      rw [en]
      generalize hn : qOf last j / 2 = near at *
      refine ⟨by omega, by omega, by rw [intsD_len, sizeLine_eq]; omega, each_of (fun (k : Nat) => .int (k : Int)) (fun (k : Nat) => .int (near + (2 * near + 1) * (k : Int))) (fun k _ Q h => ?_) ?_⟩
      · exact ⟨.inl ⟨by decide, by decide⟩, .inl ⟨by omega, by omega⟩, h⟩
      refine ⟨by rw [List.length_map, List.length_range, sizeLine_eq]; omega, eachI_of (fun (k : Nat) => .int (near + (2 * near + 1) * (k : Int))) (fun (k : Nat) => .int (if last < near + (2 * near + 1) * (k : Int) then last else near + (2 * near + 1) * (k : Int))) (fun (k : Nat) => decide (near + (2 * near + 1) * (k : Int) ≤ last + near)) (fun k _ Q h => h) (fun k _ _ Q h => h) ?_⟩
      rw [second_eq h0 b2.1 _ (by omega)]
      subst hn
      exact ⟨line_big (by omega), hp⟩⟩)
abbrev gCalled (C1 C2 : Addr) : DSp := fun es P Z => ∃ (way : Nat) (d k : D), es = [.int way, d, k] ∧
  match way with
  | 0 => needC C1 (fun last j => .int ((last + j) / j - 1)) [d, k] P Z
  | 1 => needC C1 (fun last j => .int (((last + j) / j - 1 + 1) / 2)) [d, k] P Z
  | 2 => needC C1 evenOnD [d, k] P Z
  | 3 => needC C1 evenBothD [d, k] P Z
  | 4 => needR C1 C2 (fun _ => 0) onL [d, k] P Z
  | _ => needR C1 C2 (fun last => last) bothL [d, k] P Z
theorem ok_lcalled (T : Txt K mg) : FnOk P w K mg base (L2.CX P w) 7 T.d_lcalled.f T.d_lcalled.fd ["_law_way", "_law_last", "_law_more"] (spD (gCalled T.x_NoCount.C T.x_NoMoment.C)) :=
  fn_okX T.d_lcalled.F sc_lcalled (fun es P Z h => by first | exact pure1_len h | exact pure2_len h | exact pure3_len h | (obtain ⟨_, rfl, _⟩ := h; rfl) | (obtain ⟨_, _, rfl, _⟩ := h; rfl) | (obtain ⟨_, _, _, rfl, _⟩ := h; rfl) | (obtain ⟨_, _, _, _, rfl, _⟩ := h; rfl)) (fun cdv A outer s H E hr => ⟨_,
    (wss_cons (ws_if (wt_cmp (op_dEq hr.units) (we_var (pv 0)) (we_c pe_int) (nomark _))
        (wss_one (ws_zret (we_zcall (ok_least_on T) (hr.mono (by decide)) (takes_of rfl rfl rfl rfl) rfl T.d_least_on.m T.d_least_on.F.kp T.d_least_on.b (wa_cons (we_var (pv 1)) (wa_cons (we_var (pv 2)) wa_nil)))))
        wss_nil)
      (wss_cons (ws_if (wt_cmp (op_dEq hr.units) (we_var (pv 0)) (we_c pe_int) (nomark _))
        (wss_one (ws_zret (we_zcall (ok_least_both T) (hr.mono (by decide)) (takes_of rfl rfl rfl rfl) rfl T.d_least_both.m T.d_least_both.F.kp T.d_least_both.b (wa_cons (we_var (pv 1)) (wa_cons (we_var (pv 2)) wa_nil)))))
        wss_nil)
      (wss_cons (ws_if (wt_cmp (op_dEq hr.units) (we_var (pv 0)) (we_c pe_int) (nomark _))
        (wss_one (ws_zret (we_zcall (ok_even_on T) (hr.mono (by decide)) (takes_of rfl rfl rfl rfl) rfl T.d_even_on.m T.d_even_on.F.kp T.d_even_on.b (wa_cons (we_var (pv 1)) (wa_cons (we_var (pv 2)) wa_nil)))))
        wss_nil)
      (wss_cons (ws_if (wt_cmp (op_dEq hr.units) (we_var (pv 0)) (we_c pe_int) (nomark _))
        (wss_one (ws_zret (we_zcall (ok_even_both T) (hr.mono (by decide)) (takes_of rfl rfl rfl rfl) rfl T.d_even_both.m T.d_even_both.F.kp T.d_even_both.b (wa_cons (we_var (pv 1)) (wa_cons (we_var (pv 2)) wa_nil)))))
        wss_nil)
      (wss_one (ws_zret (wz_if (wt_cmp (op_dEq hr.units) (we_var (pv 0)) (we_c pe_int) (nomark _)) (we_zcall (ok_reach_on T) (hr.mono (by decide)) (takes_of rfl rfl rfl rfl) rfl T.d_reach_on.m T.d_reach_on.F.kp T.d_reach_on.b (wa_cons (we_var (pv 1)) (wa_cons (we_var (pv 2)) wa_nil))) (we_zcall (ok_reach_both T) (hr.mono (by decide)) (takes_of rfl rfl rfl rfl) rfl T.d_reach_both.m T.d_reach_both.F.kp T.d_reach_both.b (wa_cons (we_var (pv 1)) (wa_cons (we_var (pv 2)) wa_nil)))))))))),
    fun es P Z h => by
      obtain ⟨way, d, k, rfl, hp⟩ := h
      walk_at "red"
      match way, hp with
      | 0, hp => exact ifT rfl hp
      | 1, hp => exact ifF rfl (ifT rfl hp)
      | 2, hp => exact ifF rfl (ifF rfl (ifT rfl hp))
      | 3, hp => exact ifF rfl (ifF rfl (ifF rfl (ifT rfl hp)))
      | 4, hp => exact ifF rfl (ifF rfl (ifF rfl (ifF rfl (ifT rfl hp))))
      | n + 5, hp => exact ifF (decide_eq_false (by omega)) (ifF (decide_eq_false (by omega)) (ifF (decide_eq_false (by omega)) (ifF (decide_eq_false (by omega)) (ifF (decide_eq_false (by omega)) hp))))⟩)
end
end K19

set_option maxHeartbeats 2000000
namespace K19
open PySem PySem.Spec PyProof.Rows L2 DL
variable [TabCtx]
local macro_rules | `(tactic| walk_at "red") => `(tactic| simp only [wiSeq, seqOf_lst, seqOf_tup, wiAny, wzE, wzOpL, wzIf, gzRet, gzSet, gzDrop, gPar, wLcZ, wiZip, wTupRg3, wiRg3, fMin, fAbs, fMaxL, fMinL, gUn2L, gFor2L, wLcI, wLam3, gSrc, or_false, false_or, exists_false, false_and, and_false, wDc3, gAcc, gSeqH, gForEH, gForE, gForH, gIfH, gLift, gNextH, gAppendH, gAppend, gDone, gSetH, DL.seen, dIsN, dNotN, wDc, wFld, wMeth, wDIn, wDIx, wDGetN, wNew, wzNew, wLcI, gField, gCL, fLenQ, dIxQ, wNeK, wIndex, gTryRet, gTryDrop, wzCall, wzCallL, wTold, fIsE, fRepr, wJoin, wDGet, wVals, dPow, wSrc, gSrcSet, dMulS, dFdivS, fInt, fMax, fTuple, fList, startD, gNext, gSeq, gRet, gSet, gIf, gDrop, gRaise, gFor, wVar, wC, wOp, wTest, wChain, wAnd, wOr, wNot, wtAnd, wtOr, wtNot, wIf, waNil, waCons, wTup, wLst, wCall, quiet, wIsi, wInK, wLc, wiStr, wiTup, wiLst, wiRange, wSl, woNone, woSome, dSl, wNeg, dNeg, fLen, fAll, dEq, dNe, dLe, dLt, dGe, dGt, dAdd, dSub, dMod, dIx, dIn, dIsB, strsOf, boolsOf, DL.tyD_non, at_0, at_1, at_2, at_3, at_4, DL.isInt_non, DL.isStr_non, DL.isBl_non, DL.isTup_non, DL.isLst_non, DL.tyD_bl, DL.isInt_bl, DL.isStr_bl, DL.isBl_bl, DL.isTup_bl, DL.isLst_bl, DL.tyD_int, DL.isInt_int, DL.isStr_int, DL.isBl_int, DL.isTup_int, DL.isLst_int, DL.tyD_str, DL.isInt_str, DL.isStr_str, DL.isBl_str, DL.isTup_str, DL.isLst_str, DL.tyD_lst, DL.isInt_lst, DL.isStr_lst, DL.isBl_lst, DL.isTup_lst, DL.isLst_lst, DL.tyD_tup, DL.isInt_tup, DL.isStr_tup, DL.isBl_tup, DL.isTup_tup, DL.isLst_tup, pure1, pure2, pure3, Option.map_some,
  List.map_cons, List.map_nil, List.length_cons, List.length_nil, List.cons_append, List.nil_append, List.getElem?_cons_zero, List.getElem?_cons_succ, Option.some.injEq, exists_eq_left', exists_eq_left, exists_eq_right, exists_eq_right', D.bl.injEq, D.int.injEq, D.str.injEq, D.tup.injEq, D.lst.injEq, D.fn.injEq, D.sq.injEq, D.exn.injEq, List.cons.injEq, and_true, true_and, and_self, exists_and_left, exists_and_right, Option.isSome_some, List.set_cons_zero, List.set_cons_succ, if_true, Bool.false_eq_true, if_false, Bool.not_true, Bool.not_false, reduceCtorEq, List.replicate, Nat.reduceSub, Nat.reduceAdd])
section
variable {P : Program} {w : World} {K : PySem.W.Frag} {mg : Str → Option Value} {base : Heap}
abbrev LQ : Str := (envOfC "_law_refusals" (defScope s_lrefusals) 0 0 .none).qual ++ "<lambda>"
/-- what the lambdas of the law ask of the top -/
structure Lm (T : Txt K mg) (base : Heap) where
  c : Addr
  tab : Addr
  code : T.d_lrefusals.fd.code = .ref c
  tb : LamX.TabB base mg c tab
  hm : (tab, LQ) ∈ TabCtx.T
  hu : ∀ p ∈ TabCtx.T, p.1 = tab → p.2 = LQ
  no : PySem.W.exmOne K (.ref T.x_NoMoment.C) (.ref T.x_NoCount.C) = some false
  oc : Value
  od : Option Addr
  kV : Value
  doc : Value
  pm : Value
  an : Option Addr
  cdv : Value
  ct : Value
  osl : Array (Option Value)
  lk : K.lookup T.d_lheard.f = some ⟨oc, od, .func (PySem.W.fnOf "_law_heard" "_law_heard" (defArgs s_lheard) (defBody s_lheard) (defScope s_lheard) .none kV doc pm an cdv ct), osl⟩
  hcd : PySem.W.codeIn K cdv "_law_heard" = true
  hb : Binds K (PySem.W.fnOf "_law_heard" "_law_heard" (defArgs s_lheard) (defBody s_lheard) (defScope s_lheard) .none kV doc pm an cdv ct) ["_law_call"] []
def fPool (K : PySem.W.Frag) : List D → (List D → Prop) → Prop := fun es P => ∃ (xs : List Int) (k : Nat), es = [.sq K xs, .int k] ∧ k ≤ 1 ∧ ∀ x y : Int, 0 ≤ y → y < 2147483647 → P [.int x, .int y]
theorem ok_lpool (T : Txt K mg) : FnOk P w K mg base CX0 1 T.d_lpool.f T.d_lpool.fd ["_law_script", "_law_k"] (spFr (fPool K)) :=
  fn_okF T.d_lpool.F sc_lpool (fun es P h => by first | (obtain ⟨_, rfl, _⟩ := h; rfl) | (obtain ⟨_, _, rfl, _⟩ := h; rfl) | (obtain ⟨_, _, _, rfl, _⟩ := h; rfl)) (fun cdv A outer s H E hr => ⟨_,
    (sf_cons (E := fun _ _ _ => False) (ws_set (i := 2) sc_lpool.nd rfl (by first | exact .inl rfl | exact .inr rfl) (we_c pe_int))
      (sf_cons (E := fun _ _ _ => False) (ws_if (wt_cmp op_dLt (we_var (pv 1)) (we_callB call_fLenQ rfl T.n_len boot_lenB (wa_cons (we_var (pv 0)) wa_nil)) (nomark _))
        (wss_one (ws_set (i := 2) sc_lpool.nd rfl (by first | exact .inl rfl | exact .inr rfl) (we_ixQ (we_var (pv 0)) (we_var (pv 1)))))
        wss_nil)
      (sf_cons (E := fun _ _ _ => False) (ws_set (i := 3) sc_lpool.nd rfl (by first | exact .inl rfl | exact .inr rfl) (we_callB (call_fMax rfl) rfl T.n_max boot_maxB (wa_cons (we_callTy call_fInt rfl T.n_int boot_intT (wa_cons (we_var (pv 2)) wa_nil)) (wa_cons (we_callTy call_fInt rfl T.n_int boot_intT (wa_cons (we_op op_dSub (we_neg (we_c pe_int)) (we_var (pv 2))) wa_nil)) wa_nil))))
      (sf_cons (E := fun _ _ _ => False) (ws_set (i := 4) sc_lpool.nd rfl (by first | exact .inl rfl | exact .inr rfl) (we_op op_dMod (we_callTy call_fInt rfl T.n_int boot_intT (wa_cons (we_op op_dMulS (we_op op_dAdd (we_op op_dAdd (we_op op_dAdd (we_op op_dMod (we_callTy call_fInt rfl T.n_int boot_intT (wa_cons (we_var (pv 3)) wa_nil)) (we_c pe_int)) (we_op op_dMulS (we_op op_dMulS (we_c pe_int) (we_var (pv 1))) (we_var (pv 1)))) (we_op op_dMulS (we_c pe_int) (we_var (pv 1)))) (we_c pe_int)) (we_c pe_int)) wa_nil)) (we_c pe_int)))
      (sf_ret (fw_lst (wa_cons (we_op op_dMulS (we_var (pv 3)) (we_callTy call_fInt rfl T.n_int boot_intT (wa_cons (we_cmp op_dGe (we_var (pv 3)) (we_op op_dPow (we_c pe_int) (we_c pe_int)) (nomark _)) wa_nil))) (wa_cons (we_var (pv 4)) wa_nil)))))))),
    fun es P h => by
      obtain ⟨xs, k, rfl, hk, hp⟩ := h
      simp only [gSeqF]
      walk_at "red"
      have tail : ∀ b : Int, 0 < (2147483629 : Int) ∧ CMul 7919 (k : Int) ∧ CMul (7919 * (k : Int)) (k : Int) ∧ CMul 31 (k : Int) ∧ CMul (b % 2147483629 + 7919 * (k : Int) * (k : Int) + 31 * (k : Int) + 17) 48271 ∧ 0 < (2147483647 : Int) ∧ CPow 10 18 ∧
          CMul b (if decide (10 ^ Int.toNat 18 ≤ b) = true then 1 else 0) ∧ 2 ≤ sizeLine ∧
          P [D.int (b * if decide (10 ^ Int.toNat 18 ≤ b) = true then 1 else 0), D.int ((b % 2147483629 + 7919 * (k : Int) * (k : Int) + 31 * (k : Int) + 17) * 48271 % 2147483647)] := fun b =>
        ⟨by decide, .inl ⟨by decide, by decide⟩, .inr ⟨by omega, by omega⟩, .inl ⟨by decide, by decide⟩, .inr ⟨by decide, by decide⟩, by decide, ⟨by decide, by decide, by decide⟩, .inr (by split <;> exact ⟨by decide, by decide⟩), line_big (by omega),
          hp _ _ (Int.emod_nonneg _ (by decide)) (Int.emod_lt_of_pos _ (by decide))⟩
      refine ⟨_, ⟨rfl, rfl⟩, ?_⟩
      by_cases h : k < xs.length
      · exact ifT (decide_eq_true (by omega)) ⟨_, ⟨rfl, rfl⟩, xs[k], atI_nat (List.getElem?_eq_getElem h), tail _⟩
      · exact ifF (decide_eq_false (by omega)) (tail _)⟩)
theorem cmp_same {w : Str} {d : D} {A B : Prop} (h : okEq (.tup [.str w, d])) (b : B) : 2 ≤ sizeLine ∧ okEq (.tup [.str w, d]) ∧ okEq (.tup [.str w, d]) ∧ if (!eqD (.tup [.str w, d]) (.tup [.str w, d])) = true then A else B := ⟨line_big (by omega), h, h, ifF (by rw [eqD_self h]; rfl) b⟩
theorem okEq_pair {w : Str} (h : PyData.strOk w = true) (i : Int) : okEq (.tup [.str w, .int i]) :=
  ⟨rfl, by simp [D.py, D.pys, SeqAt.shaped, PyData.canLay0, PyData.canLayAll0, PyData.depth, PyData.depthAll, h]⟩
theorem called_odd {C1 C2 : Addr} {way : Nat} {d k : D} {P : D → Prop} {Z : Addr → D → Prop} (h1 : tyOk d) (h2 : isWithin d 0 600 = false) (h3 : okM k) (z : Z C1 d) : gCalled C1 C2 [.int way, d, k] P Z := by
  refine ⟨way, d, k, rfl, ?_⟩
  match way with
  | 0 => exact ⟨d, k, rfl, h1, h3.1, ifF h2 z⟩
  | 1 => exact ⟨d, k, rfl, h1, h3.1, ifF h2 z⟩
  | 2 => exact ⟨d, k, rfl, h1, h3.1, ifF h2 z⟩
  | 3 => exact ⟨d, k, rfl, h1, h3.1, ifF h2 z⟩
  | 4 => exact ⟨d, k, rfl, h1, h3, ifF h2 z⟩
  | n + 5 => exact ⟨d, k, rfl, h1, h3, ifF h2 z⟩
theorem called_less {C1 C2 : Addr} {way : Nat} {last : Int} {k : D} {P : D → Prop} {Z : Addr → D → Prop} (hw : way < 4) (h2 : isWithin (.int last) 0 600 = true) (h3 : tyOk k) (h4 : cntOk k = false) (z : Z C1 k) : gCalled C1 C2 [.int way, .int last, k] P Z := by
  refine ⟨way, _, k, rfl, ?_⟩
  match way, hw with
  | 0, _ => exact ⟨_, k, rfl, rfl, h3, ifT h2 ⟨last, rfl, ifF h4 z⟩⟩
  | 1, _ => exact ⟨_, k, rfl, rfl, h3, ifT h2 ⟨last, rfl, ifF h4 z⟩⟩
  | 2, _ => exact ⟨_, k, rfl, rfl, h3, ifT h2 ⟨last, rfl, ifF h4 z⟩⟩
  | 3, _ => exact ⟨_, k, rfl, rfl, h3, ifT h2 ⟨last, rfl, ifF h4 z⟩⟩
theorem reach_bad {C1 C2 : Addr} {mf : Int → Int} {L : Int → List Int → List Int} {last : Int} {m t : D} {P : D → Prop} {Z : Addr → D → Prop} (h2 : isWithin (.int last) 0 600 = true) (h3 : okM m) (h4 : badM last (mf last) m = some t) (z : Z C2 t) : needR C1 C2 mf L [.int last, m] P Z :=
  ⟨_, m, rfl, rfl, h3, ifT h2 ⟨last, rfl, by rw [h4]; exact z⟩⟩
theorem okM_plain {m : D} (h : tyOk m) (n : seqOf m = none) : okM m := ⟨h, fun xs e => by rw [n] at e; cases e⟩
theorem okM_of {m : D} {xs : List D} (h : tyOk m) (n : seqOf m = some xs) (l : xs.length ≤ 100000) (a : ∀ x ∈ xs, tyOk x) : okM m := ⟨h, fun ys e => by rw [n] at e; cases e; exact ⟨l, a⟩⟩
def fRefusals : DFn := fun es P => ∃ (p : Addr) (last : Nat), es = [.src p, .int last] ∧ last ≤ 8 ∧ P (.bl true)
theorem ok_lrefusals (T : Txt K mg) (X9 : Lm T base) : FnOk P w K mg base CX0 10 T.d_lrefusals.f T.d_lrefusals.fd ["_law_source", "_law_last"] (spD fun es P _ => (fRefusals) es P) :=
  fn_okC T.d_lrefusals.F X9.code sc_lrefusals (fun es P h => by first | (obtain ⟨_, rfl, _⟩ := h; rfl) | (obtain ⟨_, _, rfl, _⟩ := h; rfl) | (obtain ⟨_, _, _, rfl, _⟩ := h; rfl)) (fun A outer s H E hr => ⟨_,
    (wss_cons (ws_set (i := 2) sc_lrefusals.nd rfl (by first | exact .inl rfl | exact .inr rfl) (we_call (ok_lone T) (hr.mono (by decide)) rfl T.d_lone.m T.d_lone.F.kp T.d_lone.b (wa_cons (we_var (pv 0)) (wa_cons (we_lst (wa_cons (we_neg (we_c pe_int)) (wa_cons (we_c pe_int) (wa_cons (we_c pe_non) (wa_cons (we_c pe_bl) (wa_cons (we_c pe_str) wa_nil)))))) wa_nil))))
      (wss_cons (ws_for (x := "") PassesOwn.never rfl (wi_range rfl T.n_range (we_c pe_int)) (pg_name (i := 3) sc_lrefusals.nd rfl (by first | exact .inl rfl | exact .inr rfl))
        (wss_one (ws_if (wt_cmp (op_dNe hr.units) (we_lam3 (x := "_law_heard") (a := "_law_call") (Ng := ["_law_call", "e"]) (w0 := "is") (w1 := "count") (w2 := "moment") (k := 7) rfl T.d_lheard.m T.d_lheard.F.kp X9.lk X9.hcd X9.hb sc_lheard rfl (.inl rfl) (three_gives (k0 := 0) (k1 := 0) (k2 := 0) (by decide) rfl rfl rfl T.x_NoCount.m T.x_NoMoment.m (by decide) (by decide) (by decide) (by decide) T.x2_NoCount T.x2_NoMoment X9.no) X9.tb rfl X9.hm X9.hu (hr.mono (by decide)) (show LamX.LamS (defScope s_lrefusals) _ from LamX.lamS_by (by decide +kernel)) rfl (fun _ _ _ _ _ => rfl) (fun A outer s H E f c' hr => (we_zcall (ok_lcalled T) (hr.mono (by decide)) (takes_of rfl rfl rfl rfl) rfl T.d_lcalled.m T.d_lcalled.F.kp T.d_lcalled.b (wa_cons (we_var (pv 3)) (wa_cons (we_var (pv 2)) (wa_cons (we_c pe_non) wa_nil)))))) (we_tup (wa_cons (we_c pe_str) (wa_cons (we_var (pv 2)) wa_nil))) (nomark _))
          (wss_one (ws_ret (we_c pe_bl)))
          wss_nil)))
      (wss_cons (ws_set (i := 4) sc_lrefusals.nd rfl (by first | exact .inl rfl | exact .inr rfl) (we_call (ok_lone T) (hr.mono (by decide)) rfl T.d_lone.m T.d_lone.F.kp T.d_lone.b (wa_cons (we_var (pv 0)) (wa_cons (we_lst (wa_cons (we_c pe_int) (wa_cons (we_neg (we_c pe_int)) (wa_cons (we_c pe_non) (wa_cons (we_c pe_bl) (wa_cons (we_tup (wa_cons (we_c pe_int) wa_nil)) wa_nil)))))) wa_nil))))
      (wss_cons (ws_for (x := "") PassesOwn.never rfl (wi_range rfl T.n_range (we_c pe_int)) (pg_name (i := 3) sc_lrefusals.nd rfl (by first | exact .inl rfl | exact .inr rfl))
        (wss_one (ws_if (wt_cmp (op_dNe hr.units) (we_lam3 (x := "_law_heard") (a := "_law_call") (Ng := ["_law_call", "e"]) (w0 := "is") (w1 := "count") (w2 := "moment") (k := 7) rfl T.d_lheard.m T.d_lheard.F.kp X9.lk X9.hcd X9.hb sc_lheard rfl (.inl rfl) (three_gives (k0 := 0) (k1 := 0) (k2 := 0) (by decide) rfl rfl rfl T.x_NoCount.m T.x_NoMoment.m (by decide) (by decide) (by decide) (by decide) T.x2_NoCount T.x2_NoMoment X9.no) X9.tb rfl X9.hm X9.hu (hr.mono (by decide)) (show LamX.LamS (defScope s_lrefusals) _ from LamX.lamS_by (by decide +kernel)) rfl (fun _ _ _ _ _ => rfl) (fun A outer s H E f c' hr => (we_zcall (ok_lcalled T) (hr.mono (by decide)) (takes_of rfl rfl rfl rfl) rfl T.d_lcalled.m T.d_lcalled.F.kp T.d_lcalled.b (wa_cons (we_var (pv 3)) (wa_cons (we_var (pv 1)) (wa_cons (we_var (pv 4)) wa_nil)))))) (we_tup (wa_cons (we_c pe_str) (wa_cons (we_var (pv 4)) wa_nil))) (nomark _))
          (wss_one (ws_ret (we_c pe_bl)))
          wss_nil)))
      (wss_cons (ws_for (x := "") PassesOwn.never rfl (wi_sq (we_lst (wa_cons (we_c pe_non) (wa_cons (we_tup wa_nil) (wa_cons (we_lst wa_nil) (wa_cons (we_c pe_int) (wa_cons (we_c pe_str) wa_nil))))))) (pg_name (i := 5) sc_lrefusals.nd rfl (by first | exact .inl rfl | exact .inr rfl))
        (wss_cons (ws_if (wt_cmp (op_dNe hr.units) (we_lam3 (x := "_law_heard") (a := "_law_call") (Ng := ["_law_call", "e"]) (w0 := "is") (w1 := "count") (w2 := "moment") (k := 7) rfl T.d_lheard.m T.d_lheard.F.kp X9.lk X9.hcd X9.hb sc_lheard rfl (.inl rfl) (three_gives (k0 := 0) (k1 := 0) (k2 := 0) (by decide) rfl rfl rfl T.x_NoCount.m T.x_NoMoment.m (by decide) (by decide) (by decide) (by decide) T.x2_NoCount T.x2_NoMoment X9.no) X9.tb rfl X9.hm X9.hu (hr.mono (by decide)) (show LamX.LamS (defScope s_lrefusals) _ from LamX.lamS_by (by decide +kernel)) rfl (fun _ _ _ _ _ => rfl) (fun A outer s H E f c' hr => (we_zcall (ok_reach_on T) (hr.mono (by decide)) (takes_of rfl rfl rfl rfl) rfl T.d_reach_on.m T.d_reach_on.F.kp T.d_reach_on.b (wa_cons (we_var (pv 1)) (wa_cons (we_var (pv 5)) wa_nil))))) (we_tup (wa_cons (we_c pe_str) (wa_cons (we_c pe_non) wa_nil))) (nomark _))
          (wss_one (ws_ret (we_c pe_bl)))
          wss_nil)
        (wss_one (ws_if (wt_cmp (op_dNe hr.units) (we_lam3 (x := "_law_heard") (a := "_law_call") (Ng := ["_law_call", "e"]) (w0 := "is") (w1 := "count") (w2 := "moment") (k := 7) rfl T.d_lheard.m T.d_lheard.F.kp X9.lk X9.hcd X9.hb sc_lheard rfl (.inl rfl) (three_gives (k0 := 0) (k1 := 0) (k2 := 0) (by decide) rfl rfl rfl T.x_NoCount.m T.x_NoMoment.m (by decide) (by decide) (by decide) (by decide) T.x2_NoCount T.x2_NoMoment X9.no) X9.tb rfl X9.hm X9.hu (hr.mono (by decide)) (show LamX.LamS (defScope s_lrefusals) _ from LamX.lamS_by (by decide +kernel)) rfl (fun _ _ _ _ _ => rfl) (fun A outer s H E f c' hr => (we_zcall (ok_reach_both T) (hr.mono (by decide)) (takes_of rfl rfl rfl rfl) rfl T.d_reach_both.m T.d_reach_both.F.kp T.d_reach_both.b (wa_cons (we_var (pv 1)) (wa_cons (we_var (pv 5)) wa_nil))))) (we_tup (wa_cons (we_c pe_str) (wa_cons (we_c pe_non) wa_nil))) (nomark _))
          (wss_one (ws_ret (we_c pe_bl)))
          wss_nil))))
      (wss_cons (ws_set (i := 6) sc_lrefusals.nd rfl (by first | exact .inl rfl | exact .inr rfl) (we_call (ok_lone T) (hr.mono (by decide)) rfl T.d_lone.m T.d_lone.F.kp T.d_lone.b (wa_cons (we_var (pv 0)) (wa_cons (we_lst (wa_cons (we_op op_dAdd (we_var (pv 1)) (we_c pe_int)) (wa_cons (we_neg (we_c pe_int)) (wa_cons (we_c pe_bl) (wa_cons (we_c pe_non) (wa_cons (we_c pe_int) wa_nil)))))) wa_nil))))
      (wss_cons (ws_if (wt_cmp (op_dNe hr.units) (we_lam3 (x := "_law_heard") (a := "_law_call") (Ng := ["_law_call", "e"]) (w0 := "is") (w1 := "count") (w2 := "moment") (k := 7) rfl T.d_lheard.m T.d_lheard.F.kp X9.lk X9.hcd X9.hb sc_lheard rfl (.inl rfl) (three_gives (k0 := 0) (k1 := 0) (k2 := 0) (by decide) rfl rfl rfl T.x_NoCount.m T.x_NoMoment.m (by decide) (by decide) (by decide) (by decide) T.x2_NoCount T.x2_NoMoment X9.no) X9.tb rfl X9.hm X9.hu (hr.mono (by decide)) (show LamX.LamS (defScope s_lrefusals) _ from LamX.lamS_by (by decide +kernel)) rfl (fun _ _ _ _ _ => rfl) (fun A outer s H E f c' hr => (we_zcall (ok_reach_both T) (hr.mono (by decide)) (takes_of rfl rfl rfl rfl) rfl T.d_reach_both.m T.d_reach_both.F.kp T.d_reach_both.b (wa_cons (we_var (pv 1)) (wa_cons (we_lst (wa_cons (we_c pe_int) (wa_cons (we_var (pv 6)) wa_nil))) wa_nil))))) (we_tup (wa_cons (we_c pe_str) (wa_cons (we_var (pv 6)) wa_nil))) (nomark _))
        (wss_one (ws_ret (we_c pe_bl)))
        wss_nil)
      (wss_cons (ws_if (PW.pt (ww_and (wt_cmp op_dGt (we_var (pv 1)) (we_c pe_int) (nomark _)) (pw_and1 (wt_cmp (op_dNe hr.units) (we_lam3 (x := "_law_heard") (a := "_law_call") (Ng := ["_law_call", "e"]) (w0 := "is") (w1 := "count") (w2 := "moment") (k := 7) rfl T.d_lheard.m T.d_lheard.F.kp X9.lk X9.hcd X9.hb sc_lheard rfl (.inl rfl) (three_gives (k0 := 0) (k1 := 0) (k2 := 0) (by decide) rfl rfl rfl T.x_NoCount.m T.x_NoMoment.m (by decide) (by decide) (by decide) (by decide) T.x2_NoCount T.x2_NoMoment X9.no) X9.tb rfl X9.hm X9.hu (hr.mono (by decide)) (show LamX.LamS (defScope s_lrefusals) _ from LamX.lamS_by (by decide +kernel)) rfl (fun _ _ _ _ _ => rfl) (fun A outer s H E f c' hr => (we_zcall (ok_reach_on T) (hr.mono (by decide)) (takes_of rfl rfl rfl rfl) rfl T.d_reach_on.m T.d_reach_on.F.kp T.d_reach_on.b (wa_cons (we_var (pv 1)) (wa_cons (we_tup (wa_cons (we_c pe_int) wa_nil)) wa_nil))))) (we_tup (wa_cons (we_c pe_str) (wa_cons (we_c pe_int) wa_nil))) (nomark _)))))
        (wss_one (ws_ret (we_c pe_bl)))
        wss_nil)
      (wss_one (ws_ret (we_cmp (op_dEq hr.units) (we_lam3 (x := "_law_heard") (a := "_law_call") (Ng := ["_law_call", "e"]) (w0 := "is") (w1 := "count") (w2 := "moment") (k := 7) rfl T.d_lheard.m T.d_lheard.F.kp X9.lk X9.hcd X9.hb sc_lheard rfl (.inl rfl) (three_gives (k0 := 0) (k1 := 0) (k2 := 0) (by decide) rfl rfl rfl T.x_NoCount.m T.x_NoMoment.m (by decide) (by decide) (by decide) (by decide) T.x2_NoCount T.x2_NoMoment X9.no) X9.tb rfl X9.hm X9.hu (hr.mono (by decide)) (show LamX.LamS (defScope s_lrefusals) _ from LamX.lamS_by (by decide +kernel)) rfl (fun _ _ _ _ _ => rfl) (fun A outer s H E f c' hr => (we_zcall (ok_reach_on T) (hr.mono (by decide)) (takes_of rfl rfl rfl rfl) rfl T.d_reach_on.m T.d_reach_on.F.kp T.d_reach_on.b (wa_cons (we_var (pv 1)) (wa_cons (we_lst (wa_cons (we_c pe_int) (wa_cons (we_var (pv 6)) wa_nil))) wa_nil))))) (we_tup (wa_cons (we_c pe_str) (wa_cons (we_var (pv 6)) wa_nil))) (nomark _)))))))))))),
    fun es P h => by
      obtain ⟨p, last, rfl, hl, hp⟩ := h
      have hw : isWithin (.int (last : Int)) 0 600 = true := by simp [isWithin]; omega
      have oddF : ∀ d ∈ [D.int (-1), D.int 601, D.non, D.bl true, D.str (Str.ofString "1")], tyOk d ∧ isWithin d 0 600 = false ∧ okEq (.tup [.str (Str.ofString "count"), d]) := by
        simp only [List.mem_cons, List.not_mem_nil, or_false, forall_eq_or_imp, forall_eq]
        exact ⟨⟨rfl, rfl, rfl, by decide +kernel⟩, ⟨rfl, rfl, rfl, by decide +kernel⟩, ⟨rfl, rfl, rfl, by decide +kernel⟩, ⟨rfl, rfl, rfl, by decide +kernel⟩, ⟨rfl, rfl, rfl, by decide +kernel⟩⟩
      have lessF : ∀ d ∈ [D.int 0, D.int (-1), D.non, D.bl true, D.tup [D.int 1]], tyOk d ∧ cntOk d = false ∧ okEq (.tup [.str (Str.ofString "count"), d]) := by
        simp only [List.mem_cons, List.not_mem_nil, or_false, forall_eq_or_imp, forall_eq]
        exact ⟨⟨rfl, rfl, rfl, by decide +kernel⟩, ⟨rfl, rfl, rfl, by decide +kernel⟩, ⟨rfl, rfl, rfl, by decide +kernel⟩, ⟨rfl, rfl, rfl, by decide +kernel⟩, ⟨rfl, rfl, rfl, by decide +kernel⟩⟩
      have okN : okEq (.tup [.str (Str.ofString "moment"), .non]) := ⟨rfl, by decide +kernel⟩
      have ok1 : okEq (.tup [.str (Str.ofString "moment"), .int 1]) := ⟨rfl, by decide +kernel⟩
      walk_at "red"
      refine ⟨line_big (by omega), p, _, rfl, by simp, by simp, fun odd hodd => ⟨by decide, by decide, fun j ds => ∃ x3, ds = [some (.src p), some (.int last), some odd, x3, none, none, none], ⟨_, rfl⟩, ?_, ?_⟩⟩
      · rintro j x ds' hx ⟨x3, rfl⟩
        obtain ⟨hj, rfl⟩ := intsD_get hx
        obtain ⟨o1, o2, o3⟩ := oddF odd hodd
        exact ⟨_, rfl, _, rfl, called_odd o1 o2 (okM_plain rfl rfl) (.inl ⟨rfl, _, rfl, cmp_same o3 ⟨_, rfl⟩⟩)⟩
      rintro ds' ⟨x3, rfl⟩
      refine ⟨_, rfl, line_big (by omega), line_big (by omega), p, _, rfl, by simp, by simp, fun less hless => ⟨by decide, by decide, fun j ds => ∃ x3, ds = [some (.src p), some (.int last), some odd, x3, some less, none, none], ⟨_, rfl⟩, ?_, ?_⟩⟩
      · rintro j x ds' hx ⟨x3, rfl⟩
        obtain ⟨hj, rfl⟩ := intsD_get hx
        obtain ⟨o1, o2, o3⟩ := lessF less hless
        exact ⟨_, rfl, _, rfl, _, rfl, called_less hj hw o1 o2 (.inl ⟨rfl, _, rfl, cmp_same o3 ⟨_, rfl⟩⟩)⟩
      rintro ds' ⟨x3', rfl⟩
      have noneF : ∀ d ∈ [D.non, D.tup [], D.lst [], D.int 0, D.str (Str.ofString "0")], okM d ∧ ∀ mf : Int, badM last mf d = some .non := by
        simp only [List.mem_cons, List.not_mem_nil, or_false, forall_eq_or_imp, forall_eq]
        exact ⟨⟨okM_plain rfl rfl, fun _ => rfl⟩, ⟨okM_of rfl rfl (Nat.zero_le _) (fun _ h => nomatch h), fun _ => rfl⟩, ⟨okM_of rfl rfl (Nat.zero_le _) (fun _ h => nomatch h), fun _ => rfl⟩, ⟨okM_plain rfl rfl, fun _ => rfl⟩, ⟨okM_plain rfl rfl, fun _ => rfl⟩⟩
      refine ⟨Nat.zero_le _, Nat.zero_le _, line_big (by omega), fun j ds => ∃ x5, ds = [some (.src p), some (.int last), some odd, x3', some less, x5, none], ⟨_, rfl⟩, ?_, ?_⟩
      · rintro j x ds' hx ⟨x5, rfl⟩
        obtain ⟨n1, n2⟩ := noneF x (List.mem_of_getElem? hx)
        exact ⟨_, rfl, _, rfl, reach_bad hw n1 (n2 0) (.inr ⟨rfl, cmp_same okN ⟨_, rfl, _, rfl, reach_bad hw n1 (n2 last) (.inr ⟨rfl, cmp_same okN ⟨_, rfl⟩⟩)⟩⟩)⟩
      rintro ds' ⟨x5, rfl⟩
      have wrongF : ∀ d ∈ [D.int ((last : Int) + 1), D.int (-1), D.bl true, D.non, D.int 0], tyOk d ∧ okEq (.tup [.str (Str.ofString "moment"), d]) ∧ badM last last (.lst [.int 0, d]) = some d ∧ badM last 0 (.lst [.int 0, d]) = some d := by
        have l0 : isWithin (.int 0) 0 (last : Int) = true := by simp [isWithin]
        have l1 : isWithin (.int 0) 0 0 = true := rfl
        have go : ∀ (d : D), isWithin d 1 last = false → badM last last (.lst [.int 0, d]) = some d ∧ badM last 0 (.lst [.int 0, d]) = some d := by
          intro d hd
          have e : firstBad last (0 + 1) last [d] = some d := by
            cases d with
            | int i => rw [firstBad, show (0 : Int) + 1 = 1 from rfl, hd, if_neg Bool.false_ne_true]
            | _ => rfl
          constructor
          · show firstBad last 0 last [.int 0, d] = some d
            rw [firstBad, if_pos l0, e]
          · show firstBad last 0 0 [.int 0, d] = some d
            rw [firstBad, if_pos l1, e]
        simp only [List.mem_cons, List.not_mem_nil, or_false, forall_eq_or_imp, forall_eq]
        refine ⟨⟨rfl, okEq_pair (by decide +kernel) _, go _ ?_⟩, ⟨rfl, ⟨rfl, by decide +kernel⟩, go _ rfl⟩, ⟨rfl, ⟨rfl, by decide +kernel⟩, go _ rfl⟩, ⟨rfl, ⟨rfl, by decide +kernel⟩, go _ rfl⟩, ⟨rfl, ⟨rfl, by decide +kernel⟩, go _ rfl⟩⟩
        simp only [isWithin]
        rw [decide_eq_false (show ¬ (last : Int) + 1 ≤ last by omega), Bool.and_false]
      have okW : ∀ d : D, tyOk d → okM (.lst [.int 0, d]) := fun d h => okM_of rfl rfl (by simp) (by
        simp only [List.mem_cons, List.not_mem_nil, or_false, forall_eq_or_imp, forall_eq]
        exact ⟨rfl, h⟩)
      refine ⟨_, rfl, _, rfl, line_big (by omega), p, _, rfl, by simp, by simp, fun wrong hwrong => ?_⟩
      obtain ⟨w1, w2, w3, w4⟩ := wrongF wrong hwrong
      refine ⟨_, rfl, _, rfl, line_big (by omega), reach_bad hw (okW _ w1) w3 (.inr ⟨rfl, _, rfl, cmp_same w2 ⟨_, rfl, ?_⟩⟩)⟩
      by_cases hl0 : (0 : Int) < last
      · exact ifT (decide_eq_true hl0) ⟨_, rfl, line_big (by omega), reach_bad hw (okM_of rfl rfl (by simp) (by simp only [List.mem_cons, List.not_mem_nil, or_false, forall_eq]; exact rfl)) (t := .int 1) rfl
          (.inr ⟨rfl, cmp_same ok1 ⟨_, rfl, _, rfl, line_big (by omega), reach_bad hw (okW _ w1) w4 (.inr ⟨rfl, _, rfl, line_big (by omega), w2, w2, by rw [eqD_self w2]; exact hp⟩)⟩⟩)⟩
      · exact ifF (decide_eq_false hl0) ⟨_, rfl, _, rfl, line_big (by omega), reach_bad hw (okW _ w1) w4 (.inr ⟨rfl, _, rfl, line_big (by omega), w2, w2, by rw [eqD_self w2]; exact hp⟩)⟩⟩)
end
end K19

set_option maxHeartbeats 4000000
namespace K19
open PySem PySem.Spec PyProof.Rows L2 DL
variable [TabCtx]
local macro_rules | `(tactic| walk_at "red") => `(tactic| simp only [wiSeq, seqOf_lst, seqOf_tup, wiAny, wzE, wzOpL, wzIf, gzRet, gzSet, gzDrop, gPar, wLcZ, wiZip, wTupRg3, wiRg3, fMin, fAbs, fMaxL, fMinL, gUn2, gUn3, gUn2L, gFor2L, wLcI, wLam3, gSrc, or_false, false_or, exists_false, false_and, and_false, wDc3, gAcc, gSeqH, gForEH, gForE, gForH, gIfH, gLift, gNextH, gAppendH, gAppend, gDone, gSetH, DL.seen, dIsN, dNotN, wDc, wFld, wMeth, wDIn, wDIx, wDGetN, wNew, wzNew, wLcI, gField, gCL, fLenQ, dIxQ, wNeK, wIndex, gTryRet, gTryDrop, wzCall, wzCallL, wTold, fIsE, fRepr, wJoin, wDGet, wVals, dPow, wSrc, gSrcSet, dMulS, dFdivS, fInt, fMax, fTuple, fList, startD, gNext, gSeq, gRet, gSet, gIf, gDrop, gRaise, gFor, wVar, wC, wOp, wTest, wChain, wAnd, wOr, wNot, wtAnd, wtOr, wtNot, wIf, waNil, waCons, wTup, wLst, wCall, quiet, wIsi, wInK, wLc, wiStr, wiTup, wiLst, wiRange, wSl, woNone, woSome, dSl, wNeg, dNeg, fLen, fAll, dEq, dNe, dLe, dLt, dGe, dGt, dAdd, dSub, dMod, dIx, dIn, dIsB, strsOf, boolsOf, DL.tyD_non, at_0, at_1, at_2, at_3, at_4, DL.isInt_non, DL.isStr_non, DL.isBl_non, DL.isTup_non, DL.isLst_non, DL.tyD_bl, DL.isInt_bl, DL.isStr_bl, DL.isBl_bl, DL.isTup_bl, DL.isLst_bl, DL.tyD_int, DL.isInt_int, DL.isStr_int, DL.isBl_int, DL.isTup_int, DL.isLst_int, DL.tyD_str, DL.isInt_str, DL.isStr_str, DL.isBl_str, DL.isTup_str, DL.isLst_str, DL.tyD_lst, DL.isInt_lst, DL.isStr_lst, DL.isBl_lst, DL.isTup_lst, DL.isLst_lst, DL.tyD_tup, DL.isInt_tup, DL.isStr_tup, DL.isBl_tup, DL.isTup_tup, DL.isLst_tup, pure1, pure2, pure3, Option.map_some,
  List.map_cons, List.map_nil, List.length_cons, List.length_nil, List.cons_append, List.nil_append, List.getElem?_cons_zero, List.getElem?_cons_succ, Option.some.injEq, exists_eq_left', exists_eq_left, exists_eq_right, exists_eq_right', D.bl.injEq, D.int.injEq, D.str.injEq, D.tup.injEq, D.lst.injEq, D.fn.injEq, D.sq.injEq, D.exn.injEq, List.cons.injEq, and_true, true_and, and_self, exists_and_left, exists_and_right, Option.isSome_some, List.set_cons_zero, List.set_cons_succ, if_true, Bool.false_eq_true, if_false, Bool.not_true, Bool.not_false, reduceCtorEq, List.replicate, Nat.reduceSub, Nat.reduceAdd])
/-! a block statement by statement -/
theorem seq_cut {G1 G2 : WS} {ds : Sl} {N : Sl → Prop} {R : D → Prop} {Z : Addr → D → Prop} (M : Sl → Prop) (h1 : ∀ N' : Sl → Prop, (∀ ds', M ds' → N' ds') → G1 ds N' R Z) (h2 : ∀ ds', M ds' → G2 ds' N R Z) : gSeq G1 G2 ds N R Z := h1 _ h2
theorem for_cut {i : Nat} {Wi : WI} {G : WS} {ds : Sl} {N : Sl → Prop} {R : D → Prop} {Z : Addr → D → Prop} (X : List D → Prop) (I : Nat → Sl → Prop) (hW : ∀ K : List D → Prop, (∀ xs, X xs → K xs) → Wi ds K) (h0 : I 0 ds)
    (h1 : ∀ xs, X xs → ∀ j x ds', xs[j]? = some x → I j ds' → G (ds'.set i (some x)) (I (j + 1)) R Z) (h2 : ∀ xs, X xs → ∀ ds', I xs.length ds' → N ds') : gFor i Wi G ds N R Z := hW _ fun xs hx => ⟨I, h0, h1 xs hx, h2 xs hx⟩
theorem for2_cut {i1 i2 : Nat} {Wi : WI} {G : WS} {ds : Sl} {N : Sl → Prop} {R : D → Prop} {Z : Addr → D → Prop} (X : List D → Prop) (I : Nat → Sl → Prop) (hW : ∀ K : List D → Prop, (∀ xs, X xs → K xs) → Wi ds K) (h0 : I 0 ds)
    (h1 : ∀ xs, X xs → ∀ j x ds', xs[j]? = some x → I j ds' → ∃ a b, x = .lst [a, b] ∧ G ((ds'.set i1 (some a)).set i2 (some b)) (I (j + 1)) R Z) (h2 : ∀ xs, X xs → ∀ ds', I xs.length ds' → N ds') : gFor2L i1 i2 Wi G ds N R Z := hW _ fun xs hx => ⟨I, h0, h1 xs hx, h2 xs hx⟩
theorem src_cut {i : Nat} {W : WF} {G : WS} {ds : Sl} {N : Sl → Prop} {R : D → Prop} {Z : Addr → D → Prop} (h1 : ∀ K : List D → Prop, (∀ x y : Int, 0 ≤ y → y < 2147483647 → K [.int x, .int y]) → W ds K)
    (h2 : ∀ p, G (ds.set i (some (.src p))) (fun ds' => N (cleanS ds')) (fun d => noS d = true ∧ R d) (fun C d => noS d = true ∧ Z C d)) : gSrc i W G ds N R Z := h1 _ fun x y a b => ⟨x, y, rfl, a, b, h2⟩
/-- slot 0 holds the script, 2 the source -/
def Sc (K : PySem.W.Frag) (ns : List Int) (ds : Sl) : Prop := ∃ x1 x2 x3 x4 x5 x6 x7 x8 x9 x10 x11 x12 x13 x14, ds = [some (.sq K ns), x1, x2, x3, x4, x5, x6, x7, x8, x9, x10, x11, x12, x13, x14]
theorem case_facts {last many : Nat} (h : caseOk last many = true) : (∀ l ∈ choicesI last many, lotOk last l = true) ∧ (choicesI last many).length ≤ 1000 ∧ choicesI last many ≠ [] ∧ ((choicesI last many).filter fun l => decide (headI l = 0)) ≠ [] ∧
    minI (((choicesI last many).filter fun l => decide (headI l = 0)).map fun l => farI last l false) = ((last : Int) + many) / many - 1 ∧ minI ((choicesI last many).map fun l => farI last l true) = (((last : Int) + many) / many - 1 + 1) / 2 := by
  unfold caseOk at h
  simp only [Bool.and_eq_true, Bool.not_eq_true', decide_eq_true_eq, List.all_eq_true, List.isEmpty_eq_false_iff] at h
  obtain ⟨⟨⟨⟨⟨h1, h2⟩, h3⟩, h4⟩, h5⟩, h6⟩ := h
  exact ⟨h1, h2, h3, h4, h5, h6⟩
theorem lot_facts {last : Nat} {l : List Int} (h : lotOk last l = true) : l ≠ [] ∧ l.length ≤ 9 ∧ goodI last 0 last l = true ∧ maxI (bothL last l) = farI last l true ∧ goodI last 0 0 (basedI l) = true ∧ maxI (onL last (basedI l)) = farI last (basedI l) false := by
  unfold lotOk at h
  simp only [Bool.and_eq_true, Bool.not_eq_true', decide_eq_true_eq, List.isEmpty_eq_false_iff] at h
  obtain ⟨⟨⟨⟨⟨h1, h2⟩, h3⟩, h4⟩, h5⟩, h6⟩ := h
  exact ⟨h1, h2, h3, h4, h5, h6⟩
theorem map_int_inj : ∀ {a b : List Int}, a.map D.int = b.map D.int → a = b
  | [], [], _ => rfl
  | [], _ :: _, h => by cases h
  | _ :: _, [], h => by cases h
  | x :: a, y :: b, h => by
    rw [List.map_cons, List.map_cons] at h
    cases (List.cons.inj h).1
    rw [map_int_inj (List.cons.inj h).2]
theorem reach_ok {C1 C2 : Addr} {mf : Int → Int} {L : Int → List Int → List Int} {last : Int} {m : D} {ns : List Int} {P : D → Prop} {Z : Addr → D → Prop} (h2 : isWithin (.int last) 0 600 = true) (hm : seqInt m ns) (hn : ns ≠ []) (hl : ns.length ≤ 100000) (hg : goodI last 0 (mf last) ns = true)
    (hp : P (.int (maxI (L last ns)))) : needR C1 C2 mf L [.int last, m] P Z := by
  have hs := seqOf_int hm
  have ty : tyOk m := by rcases hm with rfl | rfl <;> rfl
  refine ⟨_, m, rfl, rfl, okM_of ty hs (by simpa using hl) (fun x hx => ?_), ifT h2 ⟨last, rfl, ?_⟩⟩
  · obtain ⟨i, _, rfl⟩ := List.mem_map.mp hx
    rfl
  · rw [badM_good hs hn hg]
    intro ms h _
    have e := seqOf_int h
    rw [hs] at e
    rw [← map_int_inj (Option.some.inj e)]
    exact hp
theorem count_ok {C1 : Addr} {F : Int → Int → D} {last j : Int} {P : D → Prop} {Z : Addr → D → Prop} (h2 : isWithin (.int last) 0 600 = true) (h3 : 1 ≤ j) (h4 : j ≤ 1000) (hp : P (F last j)) : needC C1 F [.int last, .int j] P Z :=
  ⟨_, _, rfl, rfl, rfl, ifT h2 ⟨last, rfl, ifT (decide_eq_true h3) ⟨j, rfl, h3, h4, hp⟩⟩⟩
theorem head_mem {l : List Int} (h : l ≠ []) : headI l ∈ l := by
  cases l with
  | nil => exact absurd rfl h
  | cons x r => exact List.mem_cons_self
theorem same_int {i j : Int} {A B : Prop} (h : i = j) (b : B) : if (!decide (i = j)) = true then A else B := ifF (by rw [h]; simp) b
section
variable {P : Program} {w : World} {K : PySem.W.Frag} {mg : Str → Option Value} {base : Heap}
def spLaw (K : PySem.W.Frag) (tab : Addr) : Sp := fun vs H Q _ => ∃ (a : Addr) (ns : List Int), vs = [.ref a] ∧ SqL K H a (ns.map V.int) ∧ H tab = some (.tbl #[]) ∧ ∀ H', Q (.bl true) H'
theorem ok_law (T : Txt K mg) (X9 : Lm T base) (hT : TabCtx.T = [(X9.tab, LQ)]) : FnOk P w K mg base CX0 14 T.d_law.f T.d_law.fd ["_law_script"] (spLaw K X9.tab) :=
  T.d_law.F.ok sc_law (fun vs H Q E h => by obtain ⟨a, ns, rfl, _⟩ := h; rfl) (fun cdv A outer s H vs Q E hr h => ⟨_, PSs.nox (t := tSW (fun _ _ _ => False) _)
(wss_cons (ws_for (x := "") PassesOwn.never rfl (wi_range rfl T.n_range (we_callB (call_fMax rfl) rfl T.n_max boot_maxB (wa_cons (we_c pe_int) (wa_cons (we_callB (call_fMin rfl) rfl T.n_min boot_minB (wa_cons (we_c pe_int) (wa_cons (we_callB call_fLenQ rfl T.n_len boot_lenB (wa_cons (we_var (pv 0)) wa_nil)) wa_nil))) wa_nil)))) (pg_name (i := 1) sc_law.nd rfl (by first | exact .inl rfl | exact .inr rfl))
        (wss_src (i := 2) sc_law.nd rfl (by first | exact .inl rfl | exact .inr rfl) (fw_call (ok_lpool T) (hr.mono (by decide)) rfl T.d_lpool.m T.d_lpool.F.kp T.d_lpool.b (wa_cons (we_var (pv 0)) (wa_cons (we_var (pv 1)) wa_nil)))
        (wss_cons (ws_un2 rfl (pg_name (i := 3) sc_law.nd rfl (by first | exact .inl rfl | exact .inr rfl)) (pg_name (i := 4) sc_law.nd rfl (by first | exact .inl rfl | exact .inr rfl)) (we_tup (wa_cons (we_call (ok_ltake T) (hr.mono (by decide)) rfl T.d_ltake.m T.d_ltake.F.kp T.d_ltake.b (wa_cons (we_var (pv 2)) (wa_cons (we_c pe_int) wa_nil))) (wa_cons (we_op op_dAdd (we_c pe_int) (we_call (ok_ltake T) (hr.mono (by decide)) rfl T.d_ltake.m T.d_ltake.F.kp T.d_ltake.b (wa_cons (we_var (pv 2)) (wa_cons (we_c pe_int) wa_nil)))) wa_nil))))
        (wss_cons (ws_set (i := 5) sc_law.nd rfl (by first | exact .inl rfl | exact .inr rfl) (we_call (ok_lchoices T) (hr.mono (by decide)) rfl T.d_lchoices.m T.d_lchoices.F.kp T.d_lchoices.b (wa_cons (we_var (pv 3)) (wa_cons (we_var (pv 4)) wa_nil))))
        (wss_cons (ws_set (i := 6) sc_law.nd rfl (by first | exact .inl rfl | exact .inr rfl) (we_call (ok_lone T) (hr.mono (by decide)) rfl T.d_lone.m T.d_lone.F.kp T.d_lone.b (wa_cons (we_var (pv 2)) (wa_cons (we_var (pv 5)) wa_nil))))
        (wss_cons (ws_set (i := 7) sc_law.nd rfl (by first | exact .inl rfl | exact .inr rfl) (we_callTy call_fTuple rfl T.n_tuple boot_tupleT (wa_cons (we_op op_dAdd (we_lst (wa_cons (we_c pe_int) wa_nil)) (we_lci (i := 14) (x := "_law_one_here") rfl sc_law.nd (wi_sq (we_var (pv 6))) (blkOk_by (N := ["_law_script", "_law_k", "_law_source", "_law_last", "_law_many", "_law_lots", "_law_lot", "_law_based", "_law_ons", "_law_boths", "_law_room", "_law_some", "_law_first", "_law_second", "_law_one_here"]) (sc := defScope s_law) (by decide +kernel)) (fun _ _ _ _ _ => pg_name sc_law.nd rfl (Or.inl rfl)) (fun _ _ _ _ _ => (wt_cmp op_dGt (we_var (pv 14)) (we_c pe_int) (nomark _))) (fun _ _ _ _ _ => (we_var (pv 14))))) wa_nil)))
        (wss_cons (ws_if (wt_cmp (op_dNe hr.units) (we_callX (ok_reach_both T) (hr.mono (by decide)) rfl T.d_reach_both.m T.d_reach_both.F.kp T.d_reach_both.b (wa_cons (we_var (pv 3)) (wa_cons (we_var (pv 6)) wa_nil))) (we_call (ok_lfar T) (hr.mono (by decide)) rfl T.d_lfar.m T.d_lfar.F.kp T.d_lfar.b (wa_cons (we_var (pv 3)) (wa_cons (we_var (pv 6)) (wa_cons (we_c pe_bl) wa_nil)))) (nomark _))
          (wss_one (ws_ret (we_c pe_bl)))
          wss_nil)
        (wss_cons (ws_if (wt_cmp (op_dNe hr.units) (we_callX (ok_reach_on T) (hr.mono (by decide)) rfl T.d_reach_on.m T.d_reach_on.F.kp T.d_reach_on.b (wa_cons (we_var (pv 3)) (wa_cons (we_callTy call_fList rfl T.n_list boot_listT (wa_cons (we_var (pv 7)) wa_nil)) wa_nil))) (we_call (ok_lfar T) (hr.mono (by decide)) rfl T.d_lfar.m T.d_lfar.F.kp T.d_lfar.b (wa_cons (we_var (pv 3)) (wa_cons (we_var (pv 7)) (wa_cons (we_c pe_bl) wa_nil)))) (nomark _))
          (wss_one (ws_ret (we_c pe_bl)))
          wss_nil)
        (wss_cons (ws_setLcI (i := 8) (i1 := 14) (x1 := "_law_one_here") rfl sc_law.nd rfl rfl (wi_sq (we_var (pv 5))) (blkOk_by (N := ["_law_script", "_law_k", "_law_source", "_law_last", "_law_many", "_law_lots", "_law_lot", "_law_based", "_law_ons", "_law_boths", "_law_room", "_law_some", "_law_first", "_law_second", "_law_one_here"]) (sc := defScope s_law) (by decide +kernel)) (fun _ _ _ _ _ => pg_name sc_law.nd rfl (Or.inl rfl)) (fun _ _ _ _ _ => (wt_cmp (op_dEq hr.units) (we_ix (we_var (pv 14)) (we_c pe_int)) (we_c pe_int) (nomark _))) (fun _ _ _ _ _ => (we_call (ok_lfar T) (hr.mono (by decide)) rfl T.d_lfar.m T.d_lfar.F.kp T.d_lfar.b (wa_cons (we_var (pv 3)) (wa_cons (we_var (pv 14)) (wa_cons (we_c pe_bl) wa_nil))))))
        (wss_cons (ws_setLc (i := 9) (i1 := 14) (x1 := "_law_one_here") rfl sc_law.nd rfl rfl (wi_sq (we_var (pv 5))) (blkOk_by (N := ["_law_script", "_law_k", "_law_source", "_law_last", "_law_many", "_law_lots", "_law_lot", "_law_based", "_law_ons", "_law_boths", "_law_room", "_law_some", "_law_first", "_law_second", "_law_one_here"]) (sc := defScope s_law) (by decide +kernel)) (fun _ _ _ _ _ => pg_name sc_law.nd rfl (Or.inl rfl)) (fun _ _ _ _ _ => (we_call (ok_lfar T) (hr.mono (by decide)) rfl T.d_lfar.m T.d_lfar.F.kp T.d_lfar.b (wa_cons (we_var (pv 3)) (wa_cons (we_var (pv 14)) (wa_cons (we_c pe_bl) wa_nil))))))
        (wss_cons (ws_if (wt_cmp (op_dNe hr.units) (we_callX (ok_least_on T) (hr.mono (by decide)) rfl T.d_least_on.m T.d_least_on.F.kp T.d_least_on.b (wa_cons (we_var (pv 3)) (wa_cons (we_var (pv 4)) wa_nil))) (we_callB (call_fMinL rfl) rfl T.n_min boot_minB (wa_cons (we_lc (i := 14) (x := "_law_one_here") rfl sc_law.nd (wi_sq (we_var (pv 8))) (blkOk_by (N := ["_law_script", "_law_k", "_law_source", "_law_last", "_law_many", "_law_lots", "_law_lot", "_law_based", "_law_ons", "_law_boths", "_law_room", "_law_some", "_law_first", "_law_second", "_law_one_here"]) (sc := defScope s_law) (by decide +kernel)) (fun _ _ _ _ _ => pg_name sc_law.nd rfl (Or.inl rfl)) (fun _ _ _ _ _ => (we_callTy call_fInt rfl T.n_int boot_intT (wa_cons (we_var (pv 14)) wa_nil)))) wa_nil)) (nomark _))
          (wss_one (ws_ret (we_c pe_bl)))
          wss_nil)
        (wss_cons (ws_if (wt_cmp (op_dNe hr.units) (we_callX (ok_least_both T) (hr.mono (by decide)) rfl T.d_least_both.m T.d_least_both.F.kp T.d_least_both.b (wa_cons (we_var (pv 3)) (wa_cons (we_var (pv 4)) wa_nil))) (we_callB (call_fMinL rfl) rfl T.n_min boot_minB (wa_cons (we_lc (i := 14) (x := "_law_one_here") rfl sc_law.nd (wi_sq (we_var (pv 9))) (blkOk_by (N := ["_law_script", "_law_k", "_law_source", "_law_last", "_law_many", "_law_lots", "_law_lot", "_law_based", "_law_ons", "_law_boths", "_law_room", "_law_some", "_law_first", "_law_second", "_law_one_here"]) (sc := defScope s_law) (by decide +kernel)) (fun _ _ _ _ _ => pg_name sc_law.nd rfl (Or.inl rfl)) (fun _ _ _ _ _ => (we_callTy call_fInt rfl T.n_int boot_intT (wa_cons (we_var (pv 14)) wa_nil)))) wa_nil)) (nomark _))
          (wss_one (ws_ret (we_c pe_bl)))
          wss_nil)
        (wss_cons (ws_if (wt_not (wt_val (we_call (ok_lrefusals T X9) (hr.mono (by decide)) rfl T.d_lrefusals.m T.d_lrefusals.F.kp T.d_lrefusals.b (wa_cons (we_var (pv 2)) (wa_cons (we_var (pv 3)) wa_nil)))))
          (wss_one (ws_ret (we_c pe_bl)))
          wss_nil)
        (wss_one (ws_for2L PassesOwn.never rfl (wi_lst (we_lst (wa_cons (we_lst (wa_cons (we_var (pv 3)) (wa_cons (we_var (pv 4)) wa_nil))) (wa_cons (we_lst (wa_cons (we_call (ok_ltake T) (hr.mono (by decide)) rfl T.d_ltake.m T.d_ltake.F.kp T.d_ltake.b (wa_cons (we_var (pv 2)) (wa_cons (we_c pe_int) wa_nil))) (wa_cons (we_op op_dAdd (we_c pe_int) (we_call (ok_ltake T) (hr.mono (by decide)) rfl T.d_ltake.m T.d_ltake.F.kp T.d_ltake.b (wa_cons (we_var (pv 2)) (wa_cons (we_c pe_int) wa_nil)))) wa_nil))) wa_nil)))) (pg_name (i := 10) sc_law.nd rfl (by first | exact .inl rfl | exact .inr rfl)) (pg_name (i := 11) sc_law.nd rfl (by first | exact .inl rfl | exact .inr rfl))
          (wss_cons (ws_if (wt_cmp (op_dNe hr.units) (we_callX (ok_least_on T) (hr.mono (by decide)) rfl T.d_least_on.m T.d_least_on.F.kp T.d_least_on.b (wa_cons (we_var (pv 10)) (wa_cons (we_var (pv 11)) wa_nil))) (we_op op_dSub (we_op op_dFdivS (we_op op_dAdd (we_var (pv 10)) (we_var (pv 11))) (we_var (pv 11))) (we_c pe_int)) (nomark _))
            (wss_one (ws_ret (we_c pe_bl)))
            wss_nil)
          (wss_cons (ws_if (wt_cmp (op_dNe hr.units) (we_callX (ok_least_both T) (hr.mono (by decide)) rfl T.d_least_both.m T.d_least_both.F.kp T.d_least_both.b (wa_cons (we_var (pv 10)) (wa_cons (we_var (pv 11)) wa_nil))) (we_callB (call_fMax rfl) rfl T.n_max boot_maxB (wa_cons (we_c pe_int) (wa_cons (we_callTy call_fInt rfl T.n_int boot_intT (wa_cons (we_op op_dFdivS (we_op op_dAdd (we_var (pv 10)) (we_var (pv 11))) (we_op op_dMulS (we_c pe_int) (we_var (pv 11)))) wa_nil)) wa_nil))) (nomark _))
            (wss_one (ws_ret (we_c pe_bl)))
            wss_nil)
          (wss_cons (ws_un2L rfl (pg_name (i := 12) sc_law.nd rfl (by first | exact .inl rfl | exact .inr rfl)) (pg_name (i := 13) sc_law.nd rfl (by first | exact .inl rfl | exact .inr rfl)) (we_call (ok_levens T) (hr.mono (by decide)) rfl T.d_levens.m T.d_levens.F.kp T.d_levens.b (wa_cons (we_var (pv 10)) (wa_cons (we_var (pv 11)) wa_nil))))
          (wss_cons (ws_if (PW.pt (ww_or (wt_cmp (op_dNe hr.units) (we_callX (ok_even_on T) (hr.mono (by decide)) rfl T.d_even_on.m T.d_even_on.F.kp T.d_even_on.b (wa_cons (we_var (pv 10)) (wa_cons (we_var (pv 11)) wa_nil))) (we_var (pv 12)) (nomark _)) (pw_or1 (wt_cmp (op_dNe hr.units) (we_callX (ok_even_both T) (hr.mono (by decide)) rfl T.d_even_both.m T.d_even_both.F.kp T.d_even_both.b (wa_cons (we_var (pv 10)) (wa_cons (we_var (pv 11)) wa_nil))) (we_var (pv 13)) (nomark _)))))
            (wss_one (ws_ret (we_c pe_bl)))
            wss_nil)
          (wss_cons (ws_if (PW.pt (ww_or (wt_cmp op_dGt (we_callB call_fLen rfl T.n_len boot_lenB (wa_cons (we_var (pv 12)) wa_nil)) (we_var (pv 11)) (nomark _)) (ww_or (wt_cmp op_dGt (we_callB call_fLen rfl T.n_len boot_lenB (wa_cons (we_var (pv 13)) wa_nil)) (we_var (pv 11)) (nomark _)) (pw_or1 (wt_cmp (op_dNe hr.units) (we_callX (ok_reach_on T) (hr.mono (by decide)) rfl T.d_reach_on.m T.d_reach_on.F.kp T.d_reach_on.b (wa_cons (we_var (pv 10)) (wa_cons (we_var (pv 12)) wa_nil))) (we_callX (ok_least_on T) (hr.mono (by decide)) rfl T.d_least_on.m T.d_least_on.F.kp T.d_least_on.b (wa_cons (we_var (pv 10)) (wa_cons (we_var (pv 11)) wa_nil))) (nomark _))))))
            (wss_one (ws_ret (we_c pe_bl)))
            wss_nil)
          (wss_one (ws_if (wt_cmp (op_dNe hr.units) (we_callX (ok_reach_both T) (hr.mono (by decide)) rfl T.d_reach_both.m T.d_reach_both.F.kp T.d_reach_both.b (wa_cons (we_var (pv 10)) (wa_cons (we_var (pv 13)) wa_nil))) (we_callX (ok_least_both T) (hr.mono (by decide)) rfl T.d_least_both.m T.d_least_both.F.kp T.d_least_both.b (wa_cons (we_var (pv 10)) (wa_cons (we_var (pv 11)) wa_nil))) (nomark _))
            (wss_one (ws_ret (we_c pe_bl)))
            wss_nil))))))))))))))))))))))
      (wss_one (ws_ret (we_c pe_bl))))
    , by
      obtain ⟨a, ns, rfl, hS, hH, hq⟩ := h
      refine ⟨[(X9.tab, .tab LQ)], startD ["_law_script", "_law_k", "_law_source", "_law_last", "_law_many", "_law_lots", "_law_lot", "_law_based", "_law_ons", "_law_boths", "_law_room", "_law_some", "_law_first", "_law_second", "_law_one_here"] [.sq K ns], fun _ => False, fun d => d = .bl true, fun _ _ => False, start_sl (.cons (.sq ?_) .nil), ?_, ?_, fun _ z => z.elim, fun d hd v H' e q => ?_, fun _ _ z => z.elim⟩
      · rcases hS with hS | hS
        · refine .inl ⟨fun q hq e => ?_, hS⟩
          rw [List.mem_singleton.mp hq] at e
          subst e
          rcases hS with hS | ⟨o, hS⟩ <;> (rw [hH] at hS; cases hS)
        · exact .inr (.inr hS)
      · refine ⟨fun q hq => ?_, fun q hq r hr _ => ?_, ⟨fun t => ?_, fun p o hp => ?_⟩⟩
        · rw [List.mem_singleton.mp hq]
          refine ⟨_, hH, #[], rfl, True.intro, fun pos cv z => ?_⟩
          have z' : codeAmong pos [] = some cv := z
          simp [codeAmong] at z'
        · rw [List.mem_singleton.mp hq, List.mem_singleton.mp hr]
        · rw [hT]
          obtain ⟨t1, t2⟩ := t
          simp
        · cases List.mem_singleton.mp hp
      · refine seq_cut (Sc K ns) (fun N' hN => ?_) ?_
        · refine for_cut (fun xs => ∃ n, n ≤ 2 ∧ xs = intsD n) (fun _ ds => Sc K ns ds) (fun K' hK => ?_) ⟨_, _, _, _, _, _, _, _, _, _, _, _, _, _, rfl⟩ ?_ ?_
          · walk_at "red"
            refine ⟨ns, ⟨rfl, rfl⟩, ?_, ?_, hK _ ⟨_, ?_, rfl⟩⟩ <;> (split <;> split <;> omega)
          · rintro xs ⟨n, hn, rfl⟩ j x ds' hx ⟨x1, x2, x3, x4, x5, x6, x7, x8, x9, x10, x11, x12, x13, x14, rfl⟩
            obtain ⟨hj, rfl⟩ := intsD_get hx
            refine src_cut (fun K' hK => ?_) fun p => ?_
            · walk_at "red"
              exact ⟨ns, j, rfl, by omega, hK⟩
            have drop : ∀ ds : Sl, Sc K ns ds → Sc K ns (cleanS ds) := by
              rintro ds ⟨y1, y2, y3, y4, y5, y6, y7, y8, y9, y10, y11, y12, y13, y14, rfl⟩
              exact ⟨_, _, _, _, _, _, _, _, _, _, _, _, _, _, rfl⟩
            have hRf : ∀ {b : Bool}, b = false → True := fun _ => trivial
            refine seq_cut (fun ds => ∃ last many : Nat, last ≤ 8 ∧ many ∈ [1, 2, 3, 4] ∧ ds = [some (.sq K ns), some (.int (j : Int)), some (.src p), some (.int (last : Int)), some (.int (many : Int)), x5, x6, x7, x8, x9, x10, x11, x12, x13, x14]) (fun N' hN => ?_) ?_
            · walk_at "red"
              refine ⟨p, 9, rfl, by decide, by decide, fun r r0 r1 => ⟨p, 4, rfl, by decide, by decide, fun q q0 q1 => ?_⟩⟩
              obtain ⟨r', rfl⟩ := Int.eq_ofNat_of_zero_le r0
              obtain ⟨q', rfl⟩ := Int.eq_ofNat_of_zero_le q0
              refine ⟨line_big (by omega), _, _, ⟨rfl, rfl⟩, ?_⟩
              rw [show 1 + (q' : Int) = ((q' + 1 : Nat) : Int) from by omega]
              exact hN _ ⟨r', q' + 1, by omega, by simp; omega, rfl⟩
            rintro _ ⟨last, many, hl, hm, rfl⟩
            have hlm : last ∈ List.range 9 := List.mem_range.mpr (by omega)
            obtain ⟨c1, c2, c3, c4, c5, c6⟩ := case_facts (all_ok last hlm many hm)
            have hw : isWithin (.int (last : Int)) 0 600 = true := by simp [isWithin]; omega
            have hmany : 1 ≤ many ∧ many ≤ 4 := by simp at hm; omega
            have hck : cntOk (.int (many : Int)) = true := decide_eq_true (by omega)
            have hci : ∀ l ∈ choicesI last many, l ≠ [] ∧ l.length ≤ 1000 := fun l hl => by have := lot_facts (c1 l hl); exact ⟨this.1, by omega⟩
            refine seq_cut (fun ds => ds = [some (.sq K ns), some (.int (j : Int)), some (.src p), some (.int (last : Int)), some (.int (many : Int)), some (.lst ((choicesI last many).map tupI)), x6, x7, x8, x9, x10, x11, x12, x13, x14]) (fun N' hN => ?_) ?_
            · walk_at "red"
              exact ⟨last, many, rfl, hlm, hm, hN _ rfl⟩
            rintro _ rfl
            refine seq_cut (fun ds => ∃ lot ∈ choicesI last many, ds = [some (.sq K ns), some (.int (j : Int)), some (.src p), some (.int (last : Int)), some (.int (many : Int)), some (.lst ((choicesI last many).map tupI)), some (tupI lot), x7, x8, x9, x10, x11, x12, x13, x14]) (fun N' hN => ?_) ?_
            · walk_at "red"
              refine ⟨p, _, rfl, by simpa using c3, by rw [List.length_map]; exact c2, fun d hd => ?_⟩
              obtain ⟨lot, hlot, rfl⟩ := List.mem_map.mp hd
              exact hN _ ⟨lot, hlot, rfl⟩
            rintro _ ⟨lot, hlot, rfl⟩
            obtain ⟨o1, o2, o3, o4, o5, o6⟩ := lot_facts (c1 lot hlot)
            refine seq_cut (fun ds => ds = [some (.sq K ns), some (.int (j : Int)), some (.src p), some (.int (last : Int)), some (.int (many : Int)), some (.lst ((choicesI last many).map tupI)), some (tupI lot), some (tupI (basedI lot)), x8, x9, x10, x11, x12, x13, x14]) (fun N' hN => ?_) ?_
            · walk_at "red"
              have hf := List.length_filter_le (fun o : Int => decide (o > 0)) lot
              exact ⟨line_big (by omega), len_map (by omega), eachI_of D.int D.int (fun o => decide (o > 0)) (fun a _ Q h => h) (fun a _ _ Q h => h) ⟨by rw [List.length_map, sizeLine_eq]; omega, hN _ rfl⟩⟩
            rintro _ rfl
            have hbl : (basedI lot).length ≤ 10 := by have := List.length_filter_le (fun o : Int => decide (o > 0)) lot; simp only [basedI, List.length_cons]; omega
            refine seq_cut (fun ds => ds = [some (.sq K ns), some (.int (j : Int)), some (.src p), some (.int (last : Int)), some (.int (many : Int)), some (.lst ((choicesI last many).map tupI)), some (tupI lot), some (tupI (basedI lot)), x8, x9, x10, x11, x12, x13, x14]) (fun N' hN => ?_) ?_
            · walk_at "red"
              exact reach_ok hw (.inr rfl) o1 (by omega) o3 ⟨last, _, lot, true, rfl, .inr rfl, by omega, by omega, o1, (fun h => by cases h), same_int o4 (hN _ rfl)⟩
            rintro _ rfl
            refine seq_cut (fun ds => ds = [some (.sq K ns), some (.int (j : Int)), some (.src p), some (.int (last : Int)), some (.int (many : Int)), some (.lst ((choicesI last many).map tupI)), some (tupI lot), some (tupI (basedI lot)), x8, x9, x10, x11, x12, x13, x14]) (fun N' hN => ?_) ?_
            · walk_at "red"
              exact reach_ok hw (.inl rfl) (by simp [basedI]) (by omega) o5 ⟨last, _, basedI lot, false, rfl, .inr rfl, by omega, by omega, by simp [basedI], (fun _ => ⟨0, by simp [basedI], Int.le_refl _⟩), same_int o6 (hN _ rfl)⟩
            rintro _ rfl
            refine seq_cut (fun ds => ds = [some (.sq K ns), some (.int (j : Int)), some (.src p), some (.int (last : Int)), some (.int (many : Int)), some (.lst ((choicesI last many).map tupI)), some (tupI lot), some (tupI (basedI lot)), some (.lst (((choicesI last many).filter fun l => decide (headI l = 0)).map fun l => D.int (farI last l false))), x9, x10, x11, x12, x13, x14]) (fun N' hN => ?_) ?_
            · walk_at "red"
              refine ⟨len_map c2, eachI_of tupI (fun l => .int (farI last l false)) (fun l => decide (headI l = 0)) (fun l hl' Q h => ⟨_, at_head (hci l hl').1, h⟩) (fun l hl' ht Q h => ⟨last, _, l, false, rfl, .inr rfl, by omega, (hci l hl').2, (hci l hl').1, fun _ => ⟨headI l, head_mem (hci l hl').1, ?_⟩, h⟩) (hN _ rfl)⟩
              have := of_decide_eq_true ht
              omega
            rintro _ rfl
            refine seq_cut (fun ds => ds = [some (.sq K ns), some (.int (j : Int)), some (.src p), some (.int (last : Int)), some (.int (many : Int)), some (.lst ((choicesI last many).map tupI)), some (tupI lot), some (tupI (basedI lot)), some (.lst (((choicesI last many).filter fun l => decide (headI l = 0)).map fun l => D.int (farI last l false))), some (.lst ((choicesI last many).map fun l => D.int (farI last l true))), x10, x11, x12, x13, x14]) (fun N' hN => ?_) ?_
            · walk_at "red"
              exact ⟨len_map c2, each_of tupI (fun l => .int (farI last l true)) (fun l hl' Q h => ⟨last, _, l, true, rfl, .inr rfl, by omega, (hci l hl').2, (hci l hl').1, (fun h => by cases h), h⟩) (hN _ rfl)⟩
            rintro _ rfl
            refine seq_cut (fun ds => ds = [some (.sq K ns), some (.int (j : Int)), some (.src p), some (.int (last : Int)), some (.int (many : Int)), some (.lst ((choicesI last many).map tupI)), some (tupI lot), some (tupI (basedI lot)), some (.lst (((choicesI last many).filter fun l => decide (headI l = 0)).map fun l => D.int (farI last l false))), some (.lst ((choicesI last many).map fun l => D.int (farI last l true))), x10, x11, x12, x13, x14]) (fun N' hN => ?_) ?_
            · walk_at "red"
              refine count_ok hw (by omega) (by omega) ⟨len_map (Nat.le_trans (List.length_filter_le _ _) c2), each_of (fun l => .int (farI last l false)) (fun l => .int (farI last l false)) (fun _ _ Q h => h) ⟨_, ints_mapF _ _, by simpa using c4, fun z h1 h2 => same_int ?_ (hN _ rfl)⟩⟩
              rw [← minI_eq h1 h2]
              exact c5.symm
            rintro _ rfl
            refine seq_cut (fun ds => ds = [some (.sq K ns), some (.int (j : Int)), some (.src p), some (.int (last : Int)), some (.int (many : Int)), some (.lst ((choicesI last many).map tupI)), some (tupI lot), some (tupI (basedI lot)), some (.lst (((choicesI last many).filter fun l => decide (headI l = 0)).map fun l => D.int (farI last l false))), some (.lst ((choicesI last many).map fun l => D.int (farI last l true))), x10, x11, x12, x13, x14]) (fun N' hN => ?_) ?_
            · walk_at "red"
              refine count_ok hw (by omega) (by omega) ⟨len_map c2, each_of (fun l => .int (farI last l true)) (fun l => .int (farI last l true)) (fun _ _ Q h => h) ⟨_, ints_mapF _ _, by simpa using c3, fun z h1 h2 => same_int ?_ (hN _ rfl)⟩⟩
              rw [← minI_eq h1 h2]
              exact c6.symm
            rintro _ rfl
            refine seq_cut (fun ds => ds = [some (.sq K ns), some (.int (j : Int)), some (.src p), some (.int (last : Int)), some (.int (many : Int)), some (.lst ((choicesI last many).map tupI)), some (tupI lot), some (tupI (basedI lot)), some (.lst (((choicesI last many).filter fun l => decide (headI l = 0)).map fun l => D.int (farI last l false))), some (.lst ((choicesI last many).map fun l => D.int (farI last l true))), x10, x11, x12, x13, x14]) (fun N' hN => ?_) ?_
            · walk_at "red"
              exact ⟨p, last, rfl, hl, true, rfl, ifF rfl (hN _ rfl)⟩
            rintro _ rfl
            refine for2_cut (fun xs => ∀ x ∈ xs, ∃ a b : Int, x = .lst [.int a, .int b] ∧ 0 ≤ a ∧ a ≤ 600 ∧ 1 ≤ b ∧ b ≤ 40) (fun _ ds => ∃ x10 x11 x12 x13 x14, ds = [some (.sq K ns), some (.int (j : Int)), some (.src p), some (.int (last : Int)), some (.int (many : Int)), some (.lst ((choicesI last many).map tupI)), some (tupI lot), some (tupI (basedI lot)), some (.lst (((choicesI last many).filter fun l => decide (headI l = 0)).map fun l => D.int (farI last l false))), some (.lst ((choicesI last many).map fun l => D.int (farI last l true))), x10, x11, x12, x13, x14]) (fun K' hK => ?_) ⟨_, _, _, _, _, rfl⟩ ?_ ?_
            · walk_at "red"
              refine ⟨line_big (by omega), p, 601, rfl, by decide, by decide, fun r r0 r1 => ⟨p, 40, rfl, by decide, by decide, fun q q0 q1 => ⟨line_big (by omega), line_big (by omega), hK _ fun x hx => ?_⟩⟩⟩
              rcases List.mem_cons.mp hx with rfl | hx
              · exact ⟨_, _, rfl, by omega, by omega, by omega, by omega⟩
              · rw [List.mem_singleton.mp hx]
                exact ⟨_, _, rfl, by omega, by omega, by omega, by omega⟩
            · rintro xs hX j2 x ds' hx ⟨x10, x11, x12, x13, x14, rfl⟩
              obtain ⟨room, some', rfl, r0, r1, s0, s1⟩ := hX x (List.mem_of_getElem? hx)
              refine ⟨_, _, rfl, ?_⟩
              have hw' : isWithin (.int room) 0 600 = true := by simp [isWithin, r0, r1]
              obtain ⟨q1, q2, q3, q4⟩ := q_facts r0 s0
              obtain ⟨n1, n2, n3, n4⟩ := near_facts r0 s0
              have hs' : some' ≤ 1000 := by omega
              have E1 : goodI room 0 0 (prog 0 (qOf room some') (room / qOf room some' + 1).toNat) = true ∧ maxI (onL room (prog 0 (qOf room some') (room / qOf room some' + 1).toNat)) = (room + some') / some' - 1 := even_on_ok r0 q1 q4
              have E2 : goodI room 0 room (clip room (prog (qOf room some' / 2) (2 * (qOf room some' / 2) + 1) (room / (2 * (qOf room some' / 2) + 1) + 1).toNat)) = true ∧ maxI (bothL room (clip room (prog (qOf room some' / 2) (2 * (qOf room some' / 2) + 1) (room / (2 * (qOf room some' / 2) + 1) + 1).toNat))) = (room + some') / some' / 2 := even_both_ok r0 n1 n2
              have L1 : ((prog 0 (qOf room some') (room / qOf room some' + 1).toNat).length : Int) ≤ some' := by rw [prog_len]; have : room / qOf room some' + 1 ≤ some' := q3; omega
              have L2 : ((clip room (prog (qOf room some' / 2) (2 * (qOf room some' / 2) + 1) (room / (2 * (qOf room some' / 2) + 1) + 1).toNat)).length : Int) ≤ some' := by rw [clip_len, prog_len]; have : room / (2 * (qOf room some' / 2) + 1) + 1 ≤ some' := n3; omega
              have Z1 : prog 0 (qOf room some') (room / qOf room some' + 1).toNat ≠ [] := by intro e; have h := congrArg List.length e; rw [prog_len] at h; have : 0 ≤ room / qOf room some' := Int.ediv_nonneg r0 (Int.le_trans (by decide) q1); simp at h; omega
              have Z2 : clip room (prog (qOf room some' / 2) (2 * (qOf room some' / 2) + 1) (room / (2 * (qOf room some' / 2) + 1) + 1).toNat) ≠ [] := by intro e; have h := congrArg List.length e; rw [clip_len, prog_len] at h; have n1' : 0 ≤ qOf room some' / 2 := n1; have : 0 ≤ room / (2 * (qOf room some' / 2) + 1) := Int.ediv_nonneg r0 (by omega); simp at h; omega
              have e2 : ((room + some') / some' - 1 + 1) / 2 = (room + some') / some' / 2 := by rw [show (room + some') / some' - 1 + 1 = (room + some') / some' from by omega]
              refine seq_cut (fun ds => ds = [some (.sq K ns), some (.int (j : Int)), some (.src p), some (.int (last : Int)), some (.int (many : Int)), some (.lst ((choicesI last many).map tupI)), some (tupI lot), some (tupI (basedI lot)), some (.lst (((choicesI last many).filter fun l => decide (headI l = 0)).map fun l => D.int (farI last l false))), some (.lst ((choicesI last many).map fun l => D.int (farI last l true))), some (.int room), some (.int some'), x12, x13, x14]) (fun N' hN => ?_) ?_
              · walk_at "red"
                exact count_ok hw' s0 hs' ⟨⟨by omega, by omega⟩, same_int rfl (hN _ rfl)⟩
              rintro _ rfl
              refine seq_cut (fun ds => ds = [some (.sq K ns), some (.int (j : Int)), some (.src p), some (.int (last : Int)), some (.int (many : Int)), some (.lst ((choicesI last many).map tupI)), some (tupI lot), some (tupI (basedI lot)), some (.lst (((choicesI last many).filter fun l => decide (headI l = 0)).map fun l => D.int (farI last l false))), some (.lst ((choicesI last many).map fun l => D.int (farI last l true))), some (.int room), some (.int some'), x12, x13, x14]) (fun N' hN => ?_) ?_
              · walk_at "red"
                refine count_ok hw' s0 hs' ⟨.inl ⟨by decide, by decide⟩, ⟨by omega, by omega⟩, same_int ?_ (hN _ rfl)⟩
                rw [e2, n4]
                rw [n4] at n1
                split <;> omega
              rintro _ rfl
              refine seq_cut (fun ds => ds = [some (.sq K ns), some (.int (j : Int)), some (.src p), some (.int (last : Int)), some (.int (many : Int)), some (.lst ((choicesI last many).map tupI)), some (tupI lot), some (tupI (basedI lot)), some (.lst (((choicesI last many).filter fun l => decide (headI l = 0)).map fun l => D.int (farI last l false))), some (.lst ((choicesI last many).map fun l => D.int (farI last l true))), some (.int room), some (.int some'), some (evenOnD room some'), some (evenBothD room some'), x14]) (fun N' hN => ?_) ?_
              · walk_at "red"
                exact ⟨room, some', rfl, r0, r1, s0, hs', _, _, rfl, hN _ rfl⟩
              rintro _ rfl
              refine seq_cut (fun ds => ds = [some (.sq K ns), some (.int (j : Int)), some (.src p), some (.int (last : Int)), some (.int (many : Int)), some (.lst ((choicesI last many).map tupI)), some (tupI lot), some (tupI (basedI lot)), some (.lst (((choicesI last many).filter fun l => decide (headI l = 0)).map fun l => D.int (farI last l false))), some (.lst ((choicesI last many).map fun l => D.int (farI last l true))), some (.int room), some (.int some'), some (evenOnD room some'), some (evenBothD room some'), x14]) (fun N' hN => ?_) ?_
              · walk_at "red"
                exact count_ok hw' s0 hs' ⟨okEq_tupI _, okEq_tupI _, ifF (by rw [eqD_self (okEq_tupI _)]; rfl) (count_ok hw' s0 hs' ⟨okEq_tupI _, okEq_tupI _, ifF (by rw [eqD_self (okEq_tupI _)]; rfl) (hN _ rfl)⟩)⟩
              rintro _ rfl
              refine seq_cut (fun ds => ds = [some (.sq K ns), some (.int (j : Int)), some (.src p), some (.int (last : Int)), some (.int (many : Int)), some (.lst ((choicesI last many).map tupI)), some (tupI lot), some (tupI (basedI lot)), some (.lst (((choicesI last many).filter fun l => decide (headI l = 0)).map fun l => D.int (farI last l false))), some (.lst ((choicesI last many).map fun l => D.int (farI last l true))), some (.int room), some (.int some'), some (evenOnD room some'), some (evenBothD room some'), x14]) (fun N' hN => ?_) ?_
              · walk_at "red"
                refine ifF (decide_eq_false (by rw [List.length_map]; omega)) (ifF (decide_eq_false (by rw [List.length_map]; omega)) (reach_ok hw' (.inr rfl) Z1 (by omega) E1.1 (count_ok hw' s0 hs' (same_int E1.2 (hN _ rfl)))))
              rintro _ rfl
              walk_at "red"
              exact reach_ok hw' (.inr rfl) Z2 (by omega) E2.1 (count_ok hw' s0 hs' (same_int (E2.2.trans e2.symm) ⟨_, rfl⟩))
            · rintro xs _ ds' ⟨x10, x11, x12, x13, x14, rfl⟩
              exact drop _ ⟨_, _, _, _, _, _, _, _, _, _, _, _, _, _, rfl⟩
          · rintro xs _ ds' h; exact hN _ h
        · rintro ds' ⟨x1, x2, x3, x4, x5, x6, x7, x8, x9, x10, x11, x12, x13, x14, rfl⟩
          exact rfl
      · subst hd
        cases q
        exact hq H'⟩)
end
end K19

set_option maxHeartbeats 4000000
namespace K19
open PySem PySem.Spec PyProof.Rows L2 DL
theorem all_mk {P : Program} {w : World} {K : PySem.W.Frag} {h : Heap} {mg : Str → Option Value} {fl : Addr} (X : K.In h) (G : h.Ns mainGlobals mg) (hf : mg "law" = some (.ref fl))
    {t_MOST_STEPS : Tok} {M fR C1 C2 c tab : Addr} {ocR : Value} {odR : Option Addr} {fdR : FuncData} {slR : Array (Option Value)}
    (n_abs : PySem.W.nsIn K mainGlobals "abs" = some none)
    (n_bool : PySem.W.nsIn K mainGlobals "bool" = some none)
    (n_int : PySem.W.nsIn K mainGlobals "int" = some none)
    (n_isinstance : PySem.W.nsIn K mainGlobals "isinstance" = some none)
    (n_len : PySem.W.nsIn K mainGlobals "len" = some none)
    (n_list : PySem.W.nsIn K mainGlobals "list" = some none)
    (n_max : PySem.W.nsIn K mainGlobals "max" = some none)
    (n_min : PySem.W.nsIn K mainGlobals "min" = some none)
    (n_range : PySem.W.nsIn K mainGlobals "range" = some none)
    (n_tuple : PySem.W.nsIn K mainGlobals "tuple" = some none)
    (n_zip : PySem.W.nsIn K mainGlobals "zip" = some none)
    (m_MOST_STEPS : PySem.W.nsIn K mainGlobals "MOST_STEPS" = some (some (.int 600 t_MOST_STEPS)))
    (a_M : PySem.W.nsIn K mainGlobals "MomentError" = some (some (.ref M)))
    (a_R : PySem.W.nsIn K mainGlobals "_law_refusals" = some (some (.ref fR)))
    (l_R : K.lookup fR = some ⟨ocR, odR, .func fdR, slR⟩)
    (c_R : fdR.code = .ref c)
    (a_C1 : PySem.W.nsIn K mainGlobals "NoCount" = some (some (.ref C1)))
    (a_C2 : PySem.W.nsIn K mainGlobals "NoMoment" = some (some (.ref C2)))
    (e_C1 : PySem.W.subIn K (.ref C1) (.type "BaseException") = some true)
    (h_C1 : PySem.W.hasDictIn K C1 = true)
    (t_C1 : PySem.W.typeIn K (.ref C1) = some (.type "type"))
    (s_21 : PySem.W.subIn K (.ref C2) (.ref C1) = some false)
    (d_is_number : DnF K "is_number" s_is_number)
    (d_is_within : DnF K "is_within" s_is_within)
    (d_need_last : DnF K "_need_last" s_need_last)
    (d_need_moments : DnF K "_need_moments" s_need_moments)
    (d_gaps : DnF K "_gaps" s_gaps)
    (d_reach_on : DnF K "reach_on" s_reach_on)
    (d_reach_both : DnF K "reach_both" s_reach_both)
    (d_least_on : DnF K "least_on" s_least_on)
    (d_least_both : DnF K "least_both" s_least_both)
    (d_even_on : DnF K "even_on" s_even_on)
    (d_even_both : DnF K "even_both" s_even_both)
    (d_lpool : DnF K "_law_pool" s_lpool)
    (d_ltake : DnF K "_law_take" s_ltake)
    (d_lone : DnF K "_law_one" s_lone)
    (d_lfar : DnF K "_law_far" s_lfar)
    (d_lchoices : DnF K "_law_choices" s_lchoices)
    (d_levens : DnF K "_law_evens" s_levens)
    (d_lcalled : DnF K "_law_called" s_lcalled)
    (d_lheard : DnF K "_law_heard" s_lheard)
    (d_lrefusals : DnF K "_law_refusals" s_lrefusals)
    (d_law : DnF K "law" s_law)
    (x_NoMoment : ExF K "NoMoment" "MomentError.__init__" s_MomentError_init M)
    (x_NoCount : ExF K "NoCount" "MomentError.__init__" s_MomentError_init M)
    : ∃ fd : FuncData, (∀ (s : Shared) (u : Value), BindsTo s fd ⟨[u], []⟩ [("_law_script", u)]) ∧ ∀ base : Heap, K.In base → base.Ns mainGlobals mg → LamX.TabB base mg c tab → FnOk P w K mg base CX0 14 fl fd ["_law_script"] (spLaw K tab) := by
  letI : TabCtx := ⟨[(tab, LQ)]⟩
  obtain ⟨e_is_number⟩ := d_is_number.dn (mg := mg) (ps := ["value"]) X G fun _ _ _ _ _ _ us hl => match us, hl with | [_], _ => rfl
  obtain ⟨e_is_within⟩ := d_is_within.dn (mg := mg) (ps := ["value", "low", "high"]) X G fun _ _ _ _ _ _ us hl => match us, hl with | [_, _, _], _ => rfl
  obtain ⟨e_need_last⟩ := d_need_last.dn (mg := mg) (ps := ["last"]) X G fun _ _ _ _ _ _ us hl => match us, hl with | [_], _ => rfl
  obtain ⟨e_need_moments⟩ := d_need_moments.dn (mg := mg) (ps := ["last", "moments", "most_first"]) X G fun _ _ _ _ _ _ us hl => match us, hl with | [_, _, _], _ => rfl
  obtain ⟨e_gaps⟩ := d_gaps.dn (mg := mg) (ps := ["moments"]) X G fun _ _ _ _ _ _ us hl => match us, hl with | [_], _ => rfl
  obtain ⟨e_reach_on⟩ := d_reach_on.dn (mg := mg) (ps := ["last", "moments"]) X G fun _ _ _ _ _ _ us hl => match us, hl with | [_, _], _ => rfl
  obtain ⟨e_reach_both⟩ := d_reach_both.dn (mg := mg) (ps := ["last", "moments"]) X G fun _ _ _ _ _ _ us hl => match us, hl with | [_, _], _ => rfl
  obtain ⟨e_least_on⟩ := d_least_on.dn (mg := mg) (ps := ["last", "many"]) X G fun _ _ _ _ _ _ us hl => match us, hl with | [_, _], _ => rfl
  obtain ⟨e_least_both⟩ := d_least_both.dn (mg := mg) (ps := ["last", "many"]) X G fun _ _ _ _ _ _ us hl => match us, hl with | [_, _], _ => rfl
  obtain ⟨e_even_on⟩ := d_even_on.dn (mg := mg) (ps := ["last", "many"]) X G fun _ _ _ _ _ _ us hl => match us, hl with | [_, _], _ => rfl
  obtain ⟨e_even_both⟩ := d_even_both.dn (mg := mg) (ps := ["last", "many"]) X G fun _ _ _ _ _ _ us hl => match us, hl with | [_, _], _ => rfl
  obtain ⟨e_lpool⟩ := d_lpool.dn (mg := mg) (ps := ["_law_script", "_law_k"]) X G fun _ _ _ _ _ _ us hl => match us, hl with | [_, _], _ => rfl
  obtain ⟨e_ltake⟩ := d_ltake.dn (mg := mg) (ps := ["_law_source", "_law_top"]) X G fun _ _ _ _ _ _ us hl => match us, hl with | [_, _], _ => rfl
  obtain ⟨e_lone⟩ := d_lone.dn (mg := mg) (ps := ["_law_source", "_law_things"]) X G fun _ _ _ _ _ _ us hl => match us, hl with | [_, _], _ => rfl
  obtain ⟨e_lfar⟩ := d_lfar.dn (mg := mg) (ps := ["_law_last", "_law_some", "_law_both"]) X G fun _ _ _ _ _ _ us hl => match us, hl with | [_, _, _], _ => rfl
  obtain ⟨e_lchoices⟩ := d_lchoices.dn (mg := mg) (ps := ["_law_last", "_law_many"]) X G fun _ _ _ _ _ _ us hl => match us, hl with | [_, _], _ => rfl
  obtain ⟨e_levens⟩ := d_levens.dn (mg := mg) (ps := ["_law_last", "_law_many"]) X G fun _ _ _ _ _ _ us hl => match us, hl with | [_, _], _ => rfl
  obtain ⟨e_lcalled⟩ := d_lcalled.dn (mg := mg) (ps := ["_law_way", "_law_last", "_law_more"]) X G fun _ _ _ _ _ _ us hl => match us, hl with | [_, _, _], _ => rfl
  obtain ⟨e_lheard⟩ := d_lheard.dn (mg := mg) (ps := ["_law_call"]) X G fun _ _ _ _ _ _ us hl => match us, hl with | [_], _ => rfl
  obtain ⟨e_lrefusals⟩ := d_lrefusals.dn (mg := mg) (ps := ["_law_source", "_law_last"]) X G fun _ _ _ _ _ _ us hl => match us, hl with | [_, _], _ => rfl
  obtain ⟨e_law⟩ := d_law.dn (mg := mg) (ps := ["_law_script"]) X G fun _ _ _ _ _ _ us hl => match us, hl with | [_], _ => rfl
  obtain ⟨e_NoMoment, z_NoMoment⟩ := x_NoMoment.ex mg h X G fun _ _ _ _ _ _ us hl => match us, hl with | [_, _], _ => rfl
  obtain ⟨e_NoCount, z_NoCount⟩ := x_NoCount.ex mg h X G fun _ _ _ _ _ _ us hl => match us, hl with | [_, _], _ => rfl
  have T : Nonempty (Txt K mg) := ⟨{ n_abs := PySem.W.mg_none_of X G n_abs, n_bool := PySem.W.mg_none_of X G n_bool, n_int := PySem.W.mg_none_of X G n_int, n_isinstance := PySem.W.mg_none_of X G n_isinstance, n_len := PySem.W.mg_none_of X G n_len, n_list := PySem.W.mg_none_of X G n_list, n_max := PySem.W.mg_none_of X G n_max, n_min := PySem.W.mg_none_of X G n_min, n_range := PySem.W.mg_none_of X G n_range, n_tuple := PySem.W.mg_none_of X G n_tuple, n_zip := PySem.W.mg_none_of X G n_zip, m_MOST_STEPS := ⟨_, PySem.W.mg_of X G m_MOST_STEPS⟩, d_is_number := e_is_number, d_is_within := e_is_within, d_need_last := e_need_last, d_need_moments := e_need_moments, d_gaps := e_gaps, d_reach_on := e_reach_on, d_reach_both := e_reach_both, d_least_on := e_least_on, d_least_both := e_least_both, d_even_on := e_even_on, d_even_both := e_even_both, d_lpool := e_lpool, d_ltake := e_ltake, d_lone := e_lone, d_lfar := e_lfar, d_lchoices := e_lchoices, d_levens := e_levens, d_lcalled := e_lcalled, d_lheard := e_lheard, d_lrefusals := e_lrefusals, d_law := e_law, a_MomentError := M, m_MomentError := PySem.W.mg_of X G a_M, x_NoMoment := e_NoMoment, x_NoCount := e_NoCount, x2_NoMoment := z_NoMoment, x2_NoCount := z_NoCount }⟩
  obtain ⟨T⟩ := T
  have ef := hf.symm.trans T.d_law.m
  cases ef
  refine ⟨T.d_law.fd, fun s u => ?_, fun base _ _ hTB => ?_⟩
  · obtain ⟨oc, od, kV, doc, pm, an, cdv, ct, osl, e, lk, hcd⟩ := T.d_law.F.ex
    rw [e]
    exact .of_eq rfl
  · obtain ⟨oc, od, kV, doc, pm, an, cdv, ct, osl, e, lk, hcd⟩ := T.d_lheard.F.ex
    have eR := (PySem.W.mg_of X G a_R).symm.trans T.d_lrefusals.m
    have e1 := (PySem.W.mg_of X G a_C1).symm.trans T.x_NoCount.m
    have e2 := (PySem.W.mg_of X G a_C2).symm.trans T.x_NoMoment.m
    have kR : T.d_lrefusals.fd.code = .ref c := by
      obtain ⟨oc2, od2, kV2, doc2, pm2, an2, cdv2, ct2, osl2, eq2, lk2, hcd2⟩ := T.d_lrefusals.F.ex
      cases eR
      have z := l_R.symm.trans lk2
      have z2 : fdR = T.d_lrefusals.fd := by injection z with z; injection z with _ _ z _; injection z
      rw [← z2]
      exact c_R
    have hno : PySem.W.exmOne K (.ref T.x_NoMoment.C) (.ref T.x_NoCount.C) = some false := by
      have f1 : C1 = T.x_NoCount.C := by injection e1 with e1; injection e1
      have f2 : C2 = T.x_NoMoment.C := by injection e2 with e2; injection e2
      rw [← f1, ← f2]
      exact PySem.W.exm_ref e_C1 h_C1 t_C1 s_21
    have X9 : ∃ Y : Lm T base, Y.tab = tab := ⟨{ c := c, tab := tab, code := kR, tb := hTB, hm := (show (tab, LQ) ∈ [(tab, LQ)] from List.mem_singleton.mpr rfl), hu := fun p hp _ => (by rw [List.mem_singleton.mp (show p ∈ [(tab, LQ)] from hp)]), no := hno, oc := oc, od := od, kV := kV, doc := doc, pm := pm, an := an, cdv := cdv, ct := ct, osl := osl, lk := by rw [← e]; exact lk, hcd := hcd, hb := by rw [← e]; exact T.d_lheard.b }, rfl⟩
    obtain ⟨Y, hY⟩ := X9
    have z := ok_law (P := P) (w := w) T Y (by rw [hY]; rfl)
    rw [hY] at z
    exact z
theorem law_at {l : PySem.W.OpenLaw} {w : World} {K : PySem.W.Frag} {h : Heap} {mg : Str → Option Value} {fl : Addr} (X : K.In h) (G : h.Ns mainGlobals mg) (hf : mg "law" = some (.ref fl))
    {t_MOST_STEPS : Tok} {M fR C1 C2 c tab : Addr} {ocR : Value} {odR : Option Addr} {fdR : FuncData} {slR : Array (Option Value)}
    (n_abs : PySem.W.nsIn K mainGlobals "abs" = some none)
    (n_bool : PySem.W.nsIn K mainGlobals "bool" = some none)
    (n_int : PySem.W.nsIn K mainGlobals "int" = some none)
    (n_isinstance : PySem.W.nsIn K mainGlobals "isinstance" = some none)
    (n_len : PySem.W.nsIn K mainGlobals "len" = some none)
    (n_list : PySem.W.nsIn K mainGlobals "list" = some none)
    (n_max : PySem.W.nsIn K mainGlobals "max" = some none)
    (n_min : PySem.W.nsIn K mainGlobals "min" = some none)
    (n_range : PySem.W.nsIn K mainGlobals "range" = some none)
    (n_tuple : PySem.W.nsIn K mainGlobals "tuple" = some none)
    (n_zip : PySem.W.nsIn K mainGlobals "zip" = some none)
    (m_MOST_STEPS : PySem.W.nsIn K mainGlobals "MOST_STEPS" = some (some (.int 600 t_MOST_STEPS)))
    (a_M : PySem.W.nsIn K mainGlobals "MomentError" = some (some (.ref M)))
    (a_R : PySem.W.nsIn K mainGlobals "_law_refusals" = some (some (.ref fR)))
    (l_R : K.lookup fR = some ⟨ocR, odR, .func fdR, slR⟩)
    (c_R : fdR.code = .ref c)
    (a_C1 : PySem.W.nsIn K mainGlobals "NoCount" = some (some (.ref C1)))
    (a_C2 : PySem.W.nsIn K mainGlobals "NoMoment" = some (some (.ref C2)))
    (e_C1 : PySem.W.subIn K (.ref C1) (.type "BaseException") = some true)
    (h_C1 : PySem.W.hasDictIn K C1 = true)
    (t_C1 : PySem.W.typeIn K (.ref C1) = some (.type "type"))
    (s_21 : PySem.W.subIn K (.ref C2) (.ref C1) = some false)
    (d_is_number : DnF K "is_number" s_is_number)
    (d_is_within : DnF K "is_within" s_is_within)
    (d_need_last : DnF K "_need_last" s_need_last)
    (d_need_moments : DnF K "_need_moments" s_need_moments)
    (d_gaps : DnF K "_gaps" s_gaps)
    (d_reach_on : DnF K "reach_on" s_reach_on)
    (d_reach_both : DnF K "reach_both" s_reach_both)
    (d_least_on : DnF K "least_on" s_least_on)
    (d_least_both : DnF K "least_both" s_least_both)
    (d_even_on : DnF K "even_on" s_even_on)
    (d_even_both : DnF K "even_both" s_even_both)
    (d_lpool : DnF K "_law_pool" s_lpool)
    (d_ltake : DnF K "_law_take" s_ltake)
    (d_lone : DnF K "_law_one" s_lone)
    (d_lfar : DnF K "_law_far" s_lfar)
    (d_lchoices : DnF K "_law_choices" s_lchoices)
    (d_levens : DnF K "_law_evens" s_levens)
    (d_lcalled : DnF K "_law_called" s_lcalled)
    (d_lheard : DnF K "_law_heard" s_lheard)
    (d_lrefusals : DnF K "_law_refusals" s_lrefusals)
    (d_law : DnF K "law" s_law)
    (x_NoMoment : ExF K "NoMoment" "MomentError.__init__" s_MomentError_init M)
    (x_NoCount : ExF K "NoCount" "MomentError.__init__" s_MomentError_init M)
    (hT : h.get? tab = some { cls := .none, data := .fields #[] }) (nT : K.lookup tab = none) (hC : PySem.W.CodeHd h c tab)
    : LamX.LawAtS l w K L2.CX0 14 63 "_law_script" mg fl h := by
  obtain ⟨fd, hb, hF⟩ := all_mk (P := l.prog) (w := w) X G hf n_abs n_bool n_int n_isinstance n_len n_list n_max n_min n_range n_tuple n_zip m_MOST_STEPS a_M a_R l_R c_R a_C1 a_C2 e_C1 h_C1 t_C1 s_21 d_is_number d_is_within d_need_last d_need_moments d_gaps d_reach_on d_reach_both d_least_on d_least_both d_even_on d_even_both d_lpool d_ltake d_lone d_lfar d_lchoices d_levens d_lcalled d_lheard d_lrefusals d_law x_NoMoment x_NoCount
  refine ⟨fd, [(c, tab)], spLaw K tab, fun p hp => ?_, fun p hp => ?_, fun p hp => ?_, hb, fun H a ns _ _ hT hS => ⟨a, ns, rfl, hS, hT (c, tab) (List.mem_singleton.mpr rfl), fun _ => rfl⟩, fun base KB GB hTB => hF base KB GB (hTB (c, tab) (List.mem_singleton.mpr rfl))⟩
  · rw [List.mem_singleton.mp hp]; exact hT
  · rw [List.mem_singleton.mp hp]; exact nT
  · rw [List.mem_singleton.mp hp]; exact hC
end K19
open PySem PySem.W PyProof.Rows
set_option maxRecDepth 100000 in
set_option maxHeartbeats 0 in
theorem PySem.Challenge.cw_plainmoment_k19_whole_reaches_of_kept_holds : PySem.Challenge.rw_plainmoment_k19_whole_reaches_of_kept.Holds := by
  w_on; o_law; k_head; (case hw => w_witness2)
  k_fill
  refine LamX.walk_ofTs (l := PySem.Challenge.rw_plainmoment_k19_whole_reaches_of_kept) (n := 63) (k := 14) (x := "_law_script") (CX := fun _ => L2.CX0) rfl (by decide) rfl ⟨rfl, by decide, by decide⟩ (fun w h Y => PySem.W.km_in_of Y) ?F (fun _ _ _ _ _ z => z)
  case F =>
    intro w mg fl h Y KX G hmg
    have hT8 := PySem.W.km_tabs_of Y
    letI : DL.TabCtx := ⟨[]⟩
    refine' K19.law_at (c := 183) (tab := 179) KX G hmg ?n_abs ?n_bool ?n_int ?n_isinstance ?n_len ?n_list ?n_max ?n_min ?n_range ?n_tuple ?n_zip ?m_MOST_STEPS ?a_M ?a_R ?l_R ?c_R ?a_C1 ?a_C2 ?e_C1 ?h_C1 ?t_C1 ?s_21 ?d_is_number ?d_is_within ?d_need_last ?d_need_moments ?d_gaps ?d_reach_on ?d_reach_both ?d_least_on ?d_least_both ?d_even_on ?d_even_both ?d_lpool ?d_ltake ?d_lone ?d_lfar ?d_lchoices ?d_levens ?d_lcalled ?d_lheard ?d_lrefusals ?d_law ?x_NoMoment ?x_NoCount (hT8 179 (by decide)) (by kernel_rfl) (PySem.W.codeHd_of_K (c := 183) (P := 179) KX (by kernel_rfl))
    (case n_abs => k_is)
    (case n_bool => k_is)
    (case n_int => k_is)
    (case n_isinstance => k_is)
    (case n_len => k_is)
    (case n_list => k_is)
    (case n_max => k_is)
    (case n_min => k_is)
    (case n_range => k_is)
    (case n_tuple => k_is)
    (case n_zip => k_is)
    (case m_MOST_STEPS => k_is)
    (case a_M => k_is)
    (case a_R => k_is)
    (case l_R => k_is)
    (case c_R => rfl)
    (case a_C1 => k_is)
    (case a_C2 => k_is)
    (case e_C1 => k_is)
    (case h_C1 => k_is)
    (case t_C1 => k_is)
    (case s_21 => k_is)
    (case d_is_number => (refine' DL.dnF ?ka ?kl ?kc ?kk; (case ka => k_is); (case kl => k_is); (case kc => k_is); (case kk => k_is)))
    (case d_is_within => (refine' DL.dnF ?ka ?kl ?kc ?kk; (case ka => k_is); (case kl => k_is); (case kc => k_is); (case kk => k_is)))
    (case d_need_last => (refine' DL.dnF ?ka ?kl ?kc ?kk; (case ka => k_is); (case kl => k_is); (case kc => k_is); (case kk => k_is)))
    (case d_need_moments => (refine' DL.dnF ?ka ?kl ?kc ?kk; (case ka => k_is); (case kl => k_is); (case kc => k_is); (case kk => k_is)))
    (case d_gaps => (refine' DL.dnF ?ka ?kl ?kc ?kk; (case ka => k_is); (case kl => k_is); (case kc => k_is); (case kk => k_is)))
    (case d_reach_on => (refine' DL.dnF ?ka ?kl ?kc ?kk; (case ka => k_is); (case kl => k_is); (case kc => k_is); (case kk => k_is)))
    (case d_reach_both => (refine' DL.dnF ?ka ?kl ?kc ?kk; (case ka => k_is); (case kl => k_is); (case kc => k_is); (case kk => k_is)))
    (case d_least_on => (refine' DL.dnF ?ka ?kl ?kc ?kk; (case ka => k_is); (case kl => k_is); (case kc => k_is); (case kk => k_is)))
    (case d_least_both => (refine' DL.dnF ?ka ?kl ?kc ?kk; (case ka => k_is); (case kl => k_is); (case kc => k_is); (case kk => k_is)))
    (case d_even_on => (refine' DL.dnF ?ka ?kl ?kc ?kk; (case ka => k_is); (case kl => k_is); (case kc => k_is); (case kk => k_is)))
    (case d_even_both => (refine' DL.dnF ?ka ?kl ?kc ?kk; (case ka => k_is); (case kl => k_is); (case kc => k_is); (case kk => k_is)))
    (case d_lpool => (refine' DL.dnF ?ka ?kl ?kc ?kk; (case ka => k_is); (case kl => k_is); (case kc => k_is); (case kk => k_is)))
    (case d_ltake => (refine' DL.dnF ?ka ?kl ?kc ?kk; (case ka => k_is); (case kl => k_is); (case kc => k_is); (case kk => k_is)))
    (case d_lone => (refine' DL.dnF ?ka ?kl ?kc ?kk; (case ka => k_is); (case kl => k_is); (case kc => k_is); (case kk => k_is)))
    (case d_lfar => (refine' DL.dnF ?ka ?kl ?kc ?kk; (case ka => k_is); (case kl => k_is); (case kc => k_is); (case kk => k_is)))
    (case d_lchoices => (refine' DL.dnF ?ka ?kl ?kc ?kk; (case ka => k_is); (case kl => k_is); (case kc => k_is); (case kk => k_is)))
    (case d_levens => (refine' DL.dnF ?ka ?kl ?kc ?kk; (case ka => k_is); (case kl => k_is); (case kc => k_is); (case kk => k_is)))
    (case d_lcalled => (refine' DL.dnF ?ka ?kl ?kc ?kk; (case ka => k_is); (case kl => k_is); (case kc => k_is); (case kk => k_is)))
    (case d_lheard => (refine' DL.dnF ?ka ?kl ?kc ?kk; (case ka => k_is); (case kl => k_is); (case kc => k_is); (case kk => k_is)))
    (case d_lrefusals => (refine' DL.dnF ?ka ?kl ?kc ?kk; (case ka => k_is); (case kl => k_is); (case kc => k_is); (case kk => k_is)))
    (case d_law => (refine' DL.dnF ?ka ?kl ?kc ?kk; (case ka => k_is); (case kl => k_is); (case kc => k_is); (case kk => k_is)))
    (case x_NoMoment => (refine' DL.exF ?yaC ?yxL ?yvb ?ysa ?yga ?ygg ?yno ?yai ?yti ?yli ?yci ?yki ?ykC ?yeC ?ytC ?yhC ?ysC ?ysM ?ytM ?yhM ?yca ?ysg ?ytk ?ymr; (case yaC => k_is); (case yxL => k_is); (case yvb => decide +kernel); (case ysa => k_is); (case yga => k_is); (case ygg => k_is); (case yno => k_is); (case yai => k_is); (case yti => k_is); (case yli => k_is); (case yci => k_is); (case yki => k_is); (case ykC => k_is); (case yeC => k_is); (case ytC => k_is); (case yhC => k_is); (case ysC => k_is); (case ysM => k_is); (case ytM => k_is); (case yhM => k_is); (case yca => k_is); (case ysg => k_is); (case ytk => k_is); (case ymr => k_is)))
    (case x_NoCount => (refine' DL.exF ?yaC ?yxL ?yvb ?ysa ?yga ?ygg ?yno ?yai ?yti ?yli ?yci ?yki ?ykC ?yeC ?ytC ?yhC ?ysC ?ysM ?ytM ?yhM ?yca ?ysg ?ytk ?ymr; (case yaC => k_is); (case yxL => k_is); (case yvb => decide +kernel); (case ysa => k_is); (case yga => k_is); (case ygg => k_is); (case yno => k_is); (case yai => k_is); (case yti => k_is); (case yli => k_is); (case yci => k_is); (case yki => k_is); (case ykC => k_is); (case yeC => k_is); (case ytC => k_is); (case yhC => k_is); (case ysC => k_is); (case ysM => k_is); (case ytM => k_is); (case yhM => k_is); (case yca => k_is); (case ysg => k_is); (case ytk => k_is); (case ymr => k_is)))
