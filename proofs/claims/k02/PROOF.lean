import PyProof.Rows.All
import Wide.All
import OpenK.AllK
import Wide.FinOn
import HandS.ForMost
import HandS.IsInst
import HandS.NoneIn
import HandS.Style
import HandS.TupAny
import HandS.Evl
import PyProof.ReprRoads
import HandS.Walk
import HandS.TupLe
import HandS.TupSets
import HandS.Zip
import HandS.Conv
import HandS.Rev
import HandS.RevTup
import HandS.ExcValue
import KE.KDictZip
import KE.KTurns
import PyProof.TupleOfGen
import HandS.Style
import HandS.Star
import HandS.Lambda
import HandS.Nested
import HandS.EndTab
import KE.KNestM
import KE.DataMinMax
import KE.SortData
import HandS.Deep
import HandS.FStr
import HandS.RaiseMore
import HandS.ForSpec
import HandS.ExcField
import HandS.StrMore
import KE.IntTextLaws
import KE.GoesEnum
import KE.GoesMore
import PySem.Challenge.RW_versionjudge_k02_whole_texts_of_versions
set_option Elab.async false
set_option linter.all false
set_option maxRecDepth 100000
set_option maxHeartbeats 4000000
namespace Zj
open PySem L2
/-! ### frames, the deck -/
def Kp (d l : Addr) (H H' : Hp) : Prop := ∀ b o, b ≠ d → b ≠ l → H b = some o → H' b = some o
def dkv (l : Addr) (m t : Int) : List (Key × V) := [(.inr "left", .ref l), (.inr "mixed", .int m), (.inr "turn", .int t)]
def Deck (d l : Addr) (H : Hp) : Prop := ∃ (ns : List Int) (m t : Int), H d = some (.dK (dkv l m t)) ∧ H l = some (.lst (ns.map V.int)) ∧ ns.length ≤ 63 ∧ 0 ≤ m ∧ m < 2147483647
theorem Kp.refl {d l : Addr} (H : Hp) : Kp d l H H := fun _ _ _ _ h => h
theorem Kp.trans {d l : Addr} {H H1 H2 : Hp} (a : Kp d l H H1) (b : Kp d l H1 H2) : Kp d l H H2 := fun c o h1 h2 h => b c o h1 h2 (a c o h1 h2 h)
theorem Kp.new {d l p : Addr} {H : Hp} {o : HO} (h : H p = none) : Kp d l H (upd H p o) := fun b u _ _ e => by
  rw [upd_ne (ne_of_none e h)]
  exact e
theorem Deck.ned {d l a : Addr} {H : Hp} {xs : List V} (D : Deck d l H) (h : H a = some (.tup xs)) : a ≠ d := by
  obtain ⟨ns, m, t, h1, _⟩ := D
  exact ne_of h h1 (fun q => nomatch q)
theorem Deck.nel {d l a : Addr} {H : Hp} {xs : List V} (D : Deck d l H) (h : H a = some (.tup xs)) : a ≠ l := by
  obtain ⟨ns, m, t, _, h1, _⟩ := D
  exact ne_of h h1 (fun q => nomatch q)
theorem Deck.nedl {d l a : Addr} {H : Hp} {xs : List V} (D : Deck d l H) (h : H a = some (.lst xs)) : a ≠ d := by
  obtain ⟨ns, m, t, h1, _⟩ := D
  exact ne_of h h1 (fun q => nomatch q)
theorem Deck.dl {d l : Addr} {H : Hp} (D : Deck d l H) : d ≠ l := by
  obtain ⟨ns, m, t, h1, h2, _⟩ := D
  exact ne_of h1 h2 (fun q => nomatch q)
theorem Kp.tup {d l a : Addr} {H H' : Hp} {xs : List V} (k : Kp d l H H') (D : Deck d l H) (h : H a = some (.tup xs)) : H' a = some (.tup xs) := k a _ (D.ned h) (D.nel h) h
theorem Kp.lst {d l a : Addr} {H H' : Hp} {xs : List V} (k : Kp d l H H') (D : Deck d l H) (ne : a ≠ l) (h : H a = some (.lst xs)) : H' a = some (.lst xs) := k a _ (D.nedl h) ne h
/-- a tuple, tracked or written -/
theorem Kp.tupS {K : PySem.W.Frag} {d l a : Addr} {H H' : Hp} {xs : List V} (k : Kp d l H H') (D : Deck d l H) (h : SqT K H a xs) : SqT K H' a xs := by
  obtain ⟨ns, m, t, h1, h2, _⟩ := D
  rcases h with (h | ⟨o, h⟩) | h
  · exact .inl (.inl (k a _ (ne_of h h1 (fun q => nomatch q)) (ne_of h h2 (fun q => nomatch q)) h))
  · exact .inl (.inr ⟨o, k a _ (ne_of h h1 (fun q => nomatch q)) (ne_of h h2 (fun q => nomatch q)) h⟩)
  · exact .inr h
theorem tupS_same {K : PySem.W.Frag} {a : Addr} {H H' : Hp} {xs : List V} (s : ∀ b o, H b = some o → H' b = some o) (h : SqT K H a xs) : SqT K H' a xs := by
  rcases h with (h | ⟨o, h⟩) | h
  · exact .inl (.inl (s _ _ h))
  · exact .inl (.inr ⟨o, s _ _ h⟩)
  · exact .inr h
/-- all tuples stay -/
def TKp (K : PySem.W.Frag) (H H' : Hp) : Prop := ∀ a xs, SqT K H a xs → SqT K H' a xs
theorem TKp.trans {K : PySem.W.Frag} {H H1 H2 : Hp} (a : TKp K H H1) (b : TKp K H1 H2) : TKp K H H2 := fun x xs h => b x xs (a x xs h)
theorem TKp.kp {K : PySem.W.Frag} {d l : Addr} {H H' : Hp} (k : Kp d l H H') (D : Deck d l H) : TKp K H H' := fun _ _ h => k.tupS D h
theorem TKp.of {K : PySem.W.Frag} {H H' : Hp} (s : ∀ b o, H b = some o → H' b = some o) : TKp K H H' := fun _ _ h => tupS_same s h
/-- a list is changed -/
theorem TKp.mut {K : PySem.W.Frag} {H : Hp} {p : Addr} {xs ys : List V} (e : H p = some (.lst xs)) : TKp K H (upd H p (.lst ys)) := fun a zs h => by
  rcases h with (h | ⟨o, h⟩) | h
  · exact .inl (.inl (by rw [upd_ne (ne_of h e (fun q => nomatch q))]; exact h))
  · exact .inl (.inr ⟨o, by rw [upd_ne (ne_of h e (fun q => nomatch q))]; exact h⟩)
  · exact .inr h
theorem TKp.new {K : PySem.W.Frag} {H : Hp} {p : Addr} {o : HO} (h : H p = none) : TKp K H (upd H p o) := TKp.of fun b u e => by
  rw [upd_ne (ne_of_none e h)]
  exact e
theorem Deck.new {d l p : Addr} {H : Hp} {o : HO} (D : Deck d l H) (h : H p = none) : Deck d l (upd H p o) := by
  obtain ⟨ns, m, t, h1, h2, r⟩ := D
  exact ⟨ns, m, t, by rw [upd_ne (ne_of_none h1 h)]; exact h1, by rw [upd_ne (ne_of_none h2 h)]; exact h2, r⟩
/-- a store at another place -/
theorem Deck.mut {d l p : Addr} {H : Hp} {o : HO} (D : Deck d l H) (h1 : p ≠ d) (h2 : p ≠ l) : Deck d l (upd H p o) := by
  obtain ⟨ns, m, t, e1, e2, r⟩ := D
  exact ⟨ns, m, t, by rw [upd_ne h1.symm]; exact e1, by rw [upd_ne h2.symm]; exact e2, r⟩
theorem Deck.free {d l p : Addr} {H : Hp} (D : Deck d l H) (h : H p = none) : p ≠ l := by
  obtain ⟨ns, m, t, _, h1, _⟩ := D
  exact (ne_of_none h1 h).symm
/-- an object that H does not know may change -/
theorem Kp.out {d l p : Addr} {H H' : Hp} {o : HO} (k : Kp d l H H') (h : H p = none) : Kp d l H (upd H' p o) := fun b u n1 n2 e => by
  rw [upd_ne (ne_of_none e h)]
  exact k b u n1 n2 e
theorem Deck.mono {d l : Addr} {H H' : Hp} (D : Deck d l H) (s : ∀ b o, H b = some o → H' b = some o) : Deck d l H' := by
  obtain ⟨ns, m, t, h1, h2, r⟩ := D
  exact ⟨ns, m, t, s _ _ h1, s _ _ h2, r⟩
theorem Kp.free_back {d l p : Addr} {H H' : Hp} (k : Kp d l H H') (D : Deck d l H') (h : H' p = none) : H p = none := by
  obtain ⟨ns, m, t, h1, h2, r⟩ := D
  cases q : H p with
  | none => rfl
  | some o =>
    rw [k p o (ne_of_none h1 h).symm (ne_of_none h2 h).symm q] at h
    cases h
theorem nLM : ¬ (("left" : Str) = "mixed") := by decide +kernel
theorem nLT : ¬ (("left" : Str) = "turn") := by decide +kernel
theorem nMT : ¬ (("mixed" : Str) = "turn") := by decide +kernel
theorem inr_ne {a b : Str} (h : ¬ a = b) : ¬ ((Sum.inr a : Key) = Sum.inr b) := fun q => h (Sum.inr.inj q)
section
variable {H : Hp} {d l : Addr} {m t : Int}
theorem val_left : valV (dkv l m t) (.inr "left") = some (.ref l) := by
  unfold valV dkv
  rw [List.find?_cons_of_pos (by simp)]
  rfl
theorem val_mixed : valV (dkv l m t) (.inr "mixed") = some (.int m) := by
  unfold valV dkv
  rw [List.find?_cons_of_neg (by simp [nLM]), List.find?_cons_of_pos (by simp)]
  rfl
theorem val_turn : valV (dkv l m t) (.inr "turn") = some (.int t) := by
  unfold valV dkv
  rw [List.find?_cons_of_neg (by simp [nLT]), List.find?_cons_of_neg (by simp [nMT]), List.find?_cons_of_pos (by simp)]
  rfl
theorem put_turn (t' : Int) : putK (dkv l m t) (.inr "turn") (.int t') = dkv l m t' := by
  simp [putK, dkv, nLT, nMT]
theorem put_mixed (m' : Int) : putK (dkv l m t) (.inr "mixed") (.int m') = dkv l m' t := by
  simp [putK, dkv, nLM, Ne.symm nMT]
theorem get_left (h : H d = some (.dK (dkv l m t))) : DGet H d (.str "left") (some (.ref l)) := by
  have := DGet.k (k := (.inr "left" : Key)) h
  rw [val_left] at this
  exact this
theorem get_mixed (h : H d = some (.dK (dkv l m t))) : DGet H d (.str "mixed") (some (.int m)) := by
  have := DGet.k (k := (.inr "mixed" : Key)) h
  rw [val_mixed] at this
  exact this
theorem get_turn (h : H d = some (.dK (dkv l m t))) : DGet H d (.str "turn") (some (.int t)) := by
  have := DGet.k (k := (.inr "turn" : Key)) h
  rw [val_turn] at this
  exact this
theorem set_turn (t' : Int) (h : H d = some (.dK (dkv l m t))) : DPut H d (.str "turn") (.int t') (upd H d (.dK (dkv l m t'))) := by
  have := DPut.k (k := (.inr "turn" : Key)) (v := .int t') h (by show 3 < sizeLine; decide)
  rw [put_turn] at this
  exact this
theorem set_mixed (m' : Int) (h : H d = some (.dK (dkv l m t))) : DPut H d (.str "mixed") (.int m') (upd H d (.dK (dkv l m' t))) := by
  have := DPut.k (k := (.inr "mixed" : Key)) (v := .int m') h (by show 3 < sizeLine; decide)
  rw [put_mixed] at this
  exact this
end
theorem DpAll.ints {K : PySem.W.Frag} {H : Hp} : ∀ ns : List Int, DpAll K H (ns.map V.int) (ns.map PyData.int)
  | [] => .nil
  | n :: r => .cons (.int n) (DpAll.ints r)
theorem lay_ints : ∀ ns : List Int, PyData.canLayAll0 (ns.map PyData.int) = true
  | [] => rfl
  | n :: r => by show (PyData.canLay0 (.int n) && _) = true; rw [lay_ints r]; rfl
theorem dep_ints : ∀ ns : List Int, PyData.depthAll (ns.map PyData.int) ≤ 1
  | [] => by decide
  | n :: r => by
    have := dep_ints r
    simp only [List.map_cons, PyData.depthAll, PyData.depth]
    omega
theorem sh_ints (ns : List Int) : SeqAt.shaped (.list (ns.map PyData.int)) = true := by
  have h := dep_ints ns
  unfold SeqAt.shaped
  rw [Bool.and_eq_true]
  refine ⟨lay_ints ns, decide_eq_true ?_⟩
  simp only [PyData.depth]
  omega

/-! ### versions as tuples of five ints -/
def IV (K : PySem.W.Frag) (H : Hp) (v : V) (x : List Int) : Prop := ∃ a, v = .ref a ∧ SqT K H a (x.map V.int)
def Ver (B : Int) (x : List Int) : Prop := ∃ a b c k n : Int, x = [a, b, c, k, n] ∧ 0 ≤ a ∧ a ≤ B ∧ 0 ≤ b ∧ b ≤ B ∧ 0 ≤ c ∧ c ≤ B ∧ 0 ≤ k ∧ k ≤ 3 ∧ 0 ≤ n ∧ n ≤ B ∧ (k = 3 → n = 0)
def VV (K : PySem.W.Frag) (B : Int) (H : Hp) (v : V) : Prop := ∃ x, IV K H v x ∧ Ver B x
def nxt : List Int → List Int
  | [a, b, c, k, n] => if k < 3 then [a, b, c, k, n + 1] else [a, b, c + 1, 0, 0]
  | x => x
theorem Ver.nxt {B : Int} {x : List Int} (h : Ver B x) : Ver (B + 1) (nxt x) := by
  obtain ⟨a, b, c, k, n, rfl, h1, h2, h3, h4, h5, h6, h7, h8, h9, h10, h11⟩ := h
  unfold Zj.nxt
  simp only
  split
  · exact ⟨_, _, _, _, _, rfl, by omega, by omega, by omega, by omega, by omega, by omega, by omega, by omega, by omega, by omega, by omega⟩
  · exact ⟨_, _, _, _, _, rfl, by omega, by omega, by omega, by omega, by omega, by omega, by omega, by omega, by omega, by omega, by omega⟩
theorem Ver.mono {B C : Int} {x : List Int} (h : Ver B x) (hc : B ≤ C) : Ver C x := by
  obtain ⟨a, b, c, k, n, rfl, h1, h2, h3, h4, h5, h6, h7, h8, h9, h10, h11⟩ := h
  exact ⟨_, _, _, _, _, rfl, by omega, by omega, by omega, by omega, by omega, by omega, by omega, by omega, by omega, by omega, by omega⟩
theorem VV.mono {K : PySem.W.Frag} {B C : Int} {H : Hp} {v : V} (h : VV K B H v) (hc : B ≤ C) : VV K C H v := by
  obtain ⟨x, h1, h2⟩ := h
  exact ⟨x, h1, h2.mono hc⟩
theorem IV.kp {K : PySem.W.Frag} {d l : Addr} {H H' : Hp} {v : V} {x : List Int} (h : IV K H v x) (k : Kp d l H H') (D : Deck d l H) : IV K H' v x := by
  obtain ⟨a, e, h⟩ := h
  exact ⟨a, e, k.tupS D h⟩
theorem VV.kp {K : PySem.W.Frag} {d l : Addr} {H H' : Hp} {v : V} {B : Int} (h : VV K B H v) (k : Kp d l H H') (D : Deck d l H) : VV K B H' v := by
  obtain ⟨x, h1, h2⟩ := h
  exact ⟨x, h1.kp k D, h2⟩
theorem IV.same {K : PySem.W.Frag} {H H' : Hp} {v : V} {x : List Int} (h : IV K H v x) (k : TKp K H H') : IV K H' v x := by
  obtain ⟨a, e, h⟩ := h
  exact ⟨a, e, k _ _ h⟩
theorem VV.same {K : PySem.W.Frag} {H H' : Hp} {v : V} {B : Int} (h : VV K B H v) (k : TKp K H H') : VV K B H' v := by
  obtain ⟨x, h1, h2⟩ := h
  exact ⟨x, h1.same k, h2⟩
/-- a list is changed, all tuples stay -/
theorem tup_mut {H : Hp} {p : Addr} {xs ys : List V} (h : H p = some (.lst xs)) : ∀ a zs, H a = some (.tup zs) → upd H p (.lst ys) a = some (.tup zs) := fun a zs e => by
  rw [upd_ne (ne_of e h (fun q => nomatch q))]
  exact e
theorem tup_new {H : Hp} {p : Addr} {o : HO} (h : H p = none) : ∀ a zs, H a = some (.tup zs) → upd H p o a = some (.tup zs) := fun a zs e => by
  rw [upd_ne (ne_of_none e h)]
  exact e
/-! ### data -/
def Shp (K : PySem.W.Frag) (H : Hp) (vs : List V) : Prop := ∃ ds, DpAll K H vs ds ∧ SeqAt.shaped (.list ds) = true
theorem dpall_len {K : PySem.W.Frag} {H : Hp} : ∀ {vs : List V} {ds : List PyData}, DpAll K H vs ds → ds.length = vs.length
  | _, _, .nil => rfl
  | _, _, .cons _ h => by rw [List.length_cons, List.length_cons, dpall_len h]
theorem eqv_nil (ds : List PyData) : PyData.eqv (.list ds) (.list []) = ds.isEmpty := by
  cases ds <;> rfl
theorem neNil {K : PySem.W.Frag} {H : Hp} {a b : Addr} {xs : List V} {Q : VK} (ha : SqL K H a xs) (hb : SqL K H b []) (hs : Shp K H xs) (h : Q (.bl (!xs.isEmpty)) H) : rNeD K (.ref a) (.ref b) H Q := by
  obtain ⟨ds, h1, h2⟩ := hs
  refine ⟨_, _, .lst ha h1, .lst hb .nil, h2, by decide, ?_⟩
  have e := dpall_len h1
  rw [eqv_nil]
  have e2 : ds.isEmpty = xs.isEmpty := by
    cases ds <;> cases xs <;> simp at e <;> rfl
  rw [e2]
  exact h
theorem IV.dp {K : PySem.W.Frag} {H : Hp} {v : V} {x : List Int} (h : IV K H v x) : Dp K H v (.tuple (x.map PyData.int)) := by
  obtain ⟨a, rfl, h⟩ := h
  exact .tup h (DpAll.ints x)
theorem shp_of {K : PySem.W.Frag} {H : Hp} : ∀ {vs : List V}, (∀ v ∈ vs, ∃ x, IV K H v x) → ∃ ds, DpAll K H vs ds ∧ PyData.canLayAll0 ds = true ∧ PyData.depthAll ds ≤ 2
  | [], _ => ⟨[], .nil, rfl, by decide⟩
  | v :: vs, h => by
    obtain ⟨x, hx⟩ := h v (List.mem_cons.mpr (.inl rfl))
    obtain ⟨ds, h1, h2, h3⟩ := shp_of (vs := vs) (K := K) fun u hu => h u (List.mem_cons.mpr (.inr hu))
    refine ⟨_, .cons hx.dp h1, ?_, ?_⟩
    · show (PyData.canLayAll0 (x.map PyData.int) && _) = true
      rw [lay_ints, h2]
      rfl
    · have := dep_ints x
      simp only [PyData.depthAll, PyData.depth]
      omega
theorem shp_vv {K : PySem.W.Frag} {H : Hp} {vs : List V} {B : Int} (h : ∀ v ∈ vs, VV K B H v) : Shp K H vs := by
  obtain ⟨ds, h1, h2, h3⟩ := shp_of (K := K) (fun v hv => let ⟨x, hx, _⟩ := h v hv; ⟨x, hx⟩)
  refine ⟨ds, h1, ?_⟩
  unfold SeqAt.shaped
  rw [Bool.and_eq_true]
  refine ⟨h2, decide_eq_true ?_⟩
  simp only [PyData.depth]
  omega
/-- where a def of the text stands -/
structure DefAt (K : PySem.W.Frag) (mg : Str → Option Value) (x : Str) (st : Stmt) (ps : List Str) (f : Addr) (fd : FuncData) : Prop where
  F : Fun K x x st f fd
  g : mg x = some (.ref f)
  b : Binds K fd ps []
theorem pe_globI {X : Cx} {x : Str} {i : Int} {pos : Pos} (hg : Gl X x) (h : ∃ t, X.mg x = some (.int i t)) (hd : (x == ("__debug__" : Str)) = false := by decide) : PE X (.Name x pos) (tC (.int i)) := by
  obtain ⟨t, h⟩ := h
  exact pe_glob hg h ⟨t, rfl⟩ hd
end Zj
namespace Zj
open PySem PySem.Spec PyProof.Rows L2
structure FnG (P : Program) (w : World) (K : PySem.W.Frag) (mg : Str → Option Value) (base : Heap) (k : Nat) (f : Addr) (fd : FuncData) (ps : List Str) (sp : Sp) : Prop where
  len : ∀ vs H Q E, sp vs H Q E → vs.length = ps.length
  go : ∀ (A : Around) (outer : List Env) (s : Shared) (H : Hp) (args : Args) (us : List Value) (vs : List V) (Q : VK), A.guards = some [] → Room k A → Env0 P w K mg base A outer s H → BindsTo s fd args (ps.zip us) → Vals vs us → sp vs H Q E0 →
    codeAny (model P w) A (.call (.ref f) args) (CR CX0 outer P w H s Q E0) s
theorem FnG.of {P : Program} {w : World} {K : PySem.W.Frag} {mg : Str → Option Value} {base : Heap} {k : Nat} {f : Addr} {fd : FuncData} {ps : List Str} {sp : Sp} (F : FnOk P w K mg base CX0 k f fd ps sp) : FnG P w K mg base k f fd ps sp :=
  ⟨F.len, fun A o s H args us vs Q _ => F.run A o s H args us vs Q E0⟩
/-- a def by its body, no repr under way -/
theorem FnG.body {P : Program} {w : World} {K : PySem.W.Frag} {mg : Str → Option Value} {base : Heap} {x qual : Str} {st : Stmt} {f : Addr} {fd : FuncData} {N ps : List Str} {k : Nat} {sp : Sp} (F : Fun K x qual st f fd) (S : FnScope N ps (defScope st))
    (len : ∀ vs H Q E, sp vs H Q E → vs.length = ps.length)
    (hb : ∀ (cdv : Value) (A : Around) (outer : List Env) (s : Shared) (H : Hp) (vs : List V) (Q : VK), A.guards = some [] → Room k (A.deeper (envOfC qual (defScope st) s.heap.objs.size f cdv)) → sp vs H Q E0 →
      ∃ t, PSs (cxOf CX0 P w K mg base N qual (defScope st) f cdv A outer s H E0).nox (defBody st) t ∧ t { nx := fun _ H' => Q .non H', rt := Q } (start N vs) H) : FnG P w K mg base (k + 1) f fd ps sp := by
  obtain ⟨oc, od, kV, doc, pm, an, cdv, ct, osl, rfl, lk, hcd⟩ := F.ex
  refine ⟨len, fun A outer s H args us vs Q hg hr e0 hbn r hsp => ?_⟩
  have hl := len _ _ _ _ hsp
  have kb := fun b o e => (e0.bs b o e).1
  have KX : K.In s.heap := e0.mod.kin.keeps kb
  refine codeAny_call_function hr.depth (KX _ _ lk) rfl S.co S.gen rfl (PySem.W.codeRec_of KX hcd) (hbn _ _ _ _ ?_)
  refine wpAny_newFunctionEnv_cells S.kind (fun y hy => (S.par y.1 (List.of_mem_zip (show (y.1, y.2) ∈ ps.zip us from hy)).1).elim Or.inl fun q => Or.inr ⟨q, PySem.W.cellsFrom_some _ _ _ (.inl q)⟩) fun env he s1 x => ?_
  subst he
  refine ⟨(e0.mod.nolimit.keeps kb).keeps x.toInCall.keep, codeAny_func ?_⟩
  obtain ⟨t, ht, hq⟩ := hb cdv A outer s H vs Q hg (hr.deeper _) hsp
  have I := inv_start (CX := CX0) (E := E0) S hr.hd e0 hl r x
  refine wpAny_mono (ht.nox.run [] s1 (start N vs) H _ I hq) (fun fl s' hs => ?_) fun e s' hs => hs
  cases fl with
  | ret u =>
    obtain ⟨v, σ', H', J, rv, q⟩ := hs
    exact ⟨v, H', J.os, J.bare, J.base, J.hok, rv, q⟩
  | next =>
    obtain ⟨σ', H', J, q⟩ := hs
    exact ⟨V.non, H', J.os, J.bare, J.base, J.hok, rfl, q⟩
  | brk =>
    obtain ⟨_, _, _, q⟩ := hs
    exact q.elim
  | cont =>
    obtain ⟨_, _, _, q⟩ := hs
    exact q.elim
section
variable {X : Cx} {k : Nat} {f : Addr} {fd : FuncData} {ps : List Str} {sp : Sp} {x : Str} {p pos : Pos} {e : Expr} {es : List Expr} {t : TA}
/-- f(e, ..), f such a def -/
theorem pe_callG (F : FnG X.prog X.w X.K X.mg X.base k f fd ps sp) (hgd : X.A.guards = some []) (hr : Room k X.A) (hg : Gl X x) (hm : X.mg x = some (.ref f)) (hk : PySem.W.keepIn X.K (.ref f) = true) (hb : Binds X.K fd ps [])
    (ha : PA X (e :: es) t) (hdb : (x == ("__debug__" : Str)) = false := by decide) (he : starEach (e :: es) X.env = (false, eval e X.env) :: starEach es X.env := by rfl) (hpl : (backTo pos (starEach es X.env)).any (·.1) = false := by rfl) :
    PE X (.Call (.Name x p) (e :: es) [] pos) (tCall sp [] E0 t) := by
  refine ⟨fun pins s σ H Q I h => wpAny_Call_Name_kw (ld_glob I hg hm (PySem.W.callWith_K (h₀ := X.base) I.ok.mod.kin hk (thn (ha.run pos pins s σ H _ I h) fun us s1 ⟨vs, H1, I1, r, q⟩ => ⟨I1.kIn, ?_⟩) he hpl) hdb)⟩
  have r2 : Vals (vs ++ []) (us ++ []) := r.append .nil
  have hl : (us ++ []).length = ps.length := r2.length.symm.trans (F.len _ _ _ _ q)
  refine wpAny_call (codeAny_mono (F.go X.A X.stack s1 H1 ⟨us, []⟩ _ _ Q hgd hr I1.env0 (hb s1 us I1.kIn hl) r2 q) fun r s' hq => ?_)
  cases r with
  | error e => exact hq.elim
  | ok fl =>
    cases fl with
    | ret u => exact I1.after hq
    | next => exact hq.elim
    | brk => exact hq.elim
    | cont => exact hq.elim
/-- f(k = e, ..), all by name -/
theorem pe_callK0 {g : List Value → List Value → List Value} {gV : List V → List V → List V} {kws : List Keyword} {ks : List Str} {tk : TA} (F : FnOk X.prog X.w X.K X.mg X.base CX0 k f fd ps sp) (hr : Room k X.A) (hg : Gl X x) (hm : X.mg x = some (.ref f)) (hk : PySem.W.keepIn X.K (.ref f) = true) (hb : KBinds X.K fd ps ks g gV)
    (hx : Passes CX0 X E0) (hkw : PK X kws tk) (hall : (backToKw pos (keywordEach kws X.env)).all (·.1.isSome) = true := by rfl) (hks : (backToKw pos (keywordEach kws X.env)).filterMap (·.1) = ks := by rfl) (hdb : (x == ("__debug__" : Str)) = false := by decide)
    (hpl : ((backTo pos (starEach [] X.env)).any (·.1) || (backToKw pos (keywordEach kws X.env)).any (·.1.isNone)) = false := by rfl) : PE X (.Call (.Name x p) [] kws pos) (tCallK sp gV E0 tNil tk) := by
  refine ⟨fun pins s σ H Q I h => wpAny_Call_Name_kw (ld_glob I hg hm ?_ hdb)⟩
  refine PySem.W.callWith_KW0 (h₀ := X.base) I.ok.mod.kin hk hall (thn (hkw.run pos pins s σ H _ I h) fun ws s2 ⟨zs, H2, I2, rz, q2⟩ => ⟨I2.kIn, ?_⟩) hpl
  rw [hks]
  exact run_fnk (us := []) (vs := []) F hr hb hx I2 .nil rz q2
def kwG (us ws : List Value) : List Value := match us with | [] => ws | _ => []
def kwV (vs zs : List V) : List V := match vs with | [] => zs | _ => []
theorem kb1 {K : PySem.W.Frag} {q qual : Str} {st : Stmt} {f : Addr} {fd : FuncData} {n : Str} (F : Fun K q qual st f fd)
    (h : ∀ (kV doc pm : Value) (an : Option Addr) (cdv ct v : Value), bindArgs (PySem.W.fnOf q qual (defArgs st) (defBody st) (defScope st) .none kV doc pm an cdv ct) ⟨[], [(n, v)]⟩ = pure [(n, v)]) : KBinds K fd [n] [n] kwG kwV := by
  obtain ⟨oc, od, kV, doc, pm, an, cdv, ct, osl, rfl, lk, hcd⟩ := F.ex
  refine ⟨fun s us ws _ hl => ?_, fun {vs us zs ws} r rz => ?_⟩
  · match us, ws, hl with
    | [], [v], _ => exact .of_eq (h kV doc pm an cdv ct v)
  · cases r with
    | nil => exact rz
    | cons _ _ => exact .nil
/-- repr(x), x data without dicts -/
theorem call_reprD (hgd : X.A.guards = some []) (hu : X.A.units + 64 < cLine) : CallR X (.builtin "repr") (fun xs H Q => ∃ v d, xs = [v] ∧ Dp X.K H v d ∧ d.showable = true ∧ SeqAt.shaped d = true ∧ d.depth < 60 ∧ d.shown.length ≤ sizeLine ∧ Q (.str d.shown) H) := by
  intro pins s σ H xs us Q I r h
  obtain ⟨v, d, rfl, hd, hs, hsh, hdp, hz, q⟩ := h
  obtain ⟨u, rfl, ru⟩ := vals1 r
  obtain ⟨as, rd⟩ := Dp.reads I d v u hd ru
  have nd : d.hasDict = false := PyData.hasDict_of_canLay d (SeqAt.canLay_of_shaped hsh)
  have fin : ∀ (h' : Heap) (t tk : Tok), (∀ b o, s.heap.get? b = some o → h'.get? b = some o) → EP X pins σ Q (.str d.shown t) { s with heap := h', toks := tk } := fun h' t tk hk =>
    ⟨.str _, H, I.kept hk, ⟨_, rfl⟩, q⟩
  cases hd with
  | non =>
    cases ru
    exact PySem.P.repr_of_none (fin _ _ _ fun _ _ h => h)
  | bl b =>
    cases ru
    exact PySem.P.repr_of_bool (fin _ _ _ fun _ _ h => h)
  | int i =>
    obtain ⟨tk, rfl⟩ := ru
    exact PySem.P.repr_of_int (of_decide_eq_true hs) (fin _ _ _ fun _ _ h => h)
  | str z =>
    obtain ⟨tk, rfl⟩ := ru
    exact PySem.P.repr_of_str (fin _ _ _ fun _ _ h => h)
  | lst h1 h2 =>
    cases ru
    exact repr_of_reads' rd hs (fun z => by rw [nd] at z; cases z) hgd (by omega) (fun _ _ z => z) (fun h' t tk hk => fin h' t tk hk) hz
  | tup h1 h2 =>
    cases ru
    exact repr_of_reads' rd hs (fun z => by rw [nd] at z; cases z) hgd (by omega) (fun _ _ z => z) (fun h' t tk hk => fin h' t tk hk) hz
/-! within a comprehension: the written part told outside -/
variable {K : PySem.W.Frag}
theorem op_ltTK (K : PySem.W.Frag) (hu : X.A.units < cLine) (e : X.K = K := by rfl) : OpR X (compareOp .Lt) (rLtT K) := by
  subst e
  exact op_ltT hu
theorem op_eqDK (K : PySem.W.Frag) (hu : X.A.units + 64 < cLine) (e : X.K = K := by rfl) : OpR X (compareOp .Eq) (rEqD K) := by
  subst e
  exact op_eqD hu
theorem op_neDK (K : PySem.W.Frag) (hu : X.A.units + 64 < cLine) (e : X.K = K := by rfl) : OpR X (compareOp .NotEq) (rNeD K) := by
  subst e
  exact op_neD hu
theorem ix_tupK (K : PySem.W.Frag) (e : X.K = K := by rfl) : IxR X (rIxT K) := by
  subst e
  exact ix_tup
theorem ix_listK (K : PySem.W.Frag) (e : X.K = K := by rfl) : IxR X (rIxL K) := by
  subst e
  exact ix_list
theorem sl_tupAK (K : PySem.W.Frag) (e : X.K = K := by rfl) : SlR X (rSlA K) := by
  subst e
  exact sl_tupA
theorem op_catAK (K : PySem.W.Frag) (e : X.K = K := by rfl) : OpR X (binaryOp .Add) (rCatA K) := by
  subst e
  exact op_catA
def rLenSK (K : PySem.W.Frag) : List V → Hp → VK → Prop := fun xs H Q => ∃ p ys, xs = [.ref p] ∧ (SqL K H p ys ∨ SqT K H p ys) ∧ Q (.int ys.length) H
theorem call_len_seqK (K : PySem.W.Frag) (e : X.K = K := by rfl) : CallR X (.builtin "len") (rLenSK K) := by
  subst e
  exact call_len_seq
theorem call_isiKK (K : PySem.W.Frag) (e : X.K = K := by rfl) : CallR X (.builtin "isinstance") (rIsi K) := by
  subst e
  exact call_isi
theorem pg_tupK (K : PySem.W.Frag) {es : List Expr} {k : Nat} {pos : Pos} {t : TGs} {n : Nat} (hc : X.calm = true) (h : PGs X es t) (e : X.K = K := by rfl) (hn : (assignEach es X.env).length = n := by rfl) (hst : (assignEach es X.env).findIdx? (·.1) = none := by rfl) : PG X (.Tuple es k pos) (gTup K n t) := by
  subst e
  exact pg_tup hc h hn hst
theorem pi_tupK (K : PySem.W.Frag) {tg l : Expr} {tl : TE} (hl : PE X l tl) (e : X.K = K := by rfl) : PI X tg l (iTup K tl) := by
  subst e
  exact pi_tup hl
theorem op_leTK (K : PySem.W.Frag) (hu : X.A.units < cLine) (e : X.K = K := by rfl) : OpR X (compareOp .LtE) (rLeT K) := by
  subst e
  exact op_leT hu
def rReprD (K : PySem.W.Frag) : List V → Hp → VK → Prop := fun xs H Q => ∃ v d, xs = [v] ∧ Dp K H v d ∧ d.showable = true ∧ SeqAt.shaped d = true ∧ d.depth < 60 ∧ d.shown.length ≤ sizeLine ∧ Q (.str d.shown) H
theorem call_reprDK (K : PySem.W.Frag) (hgd : X.A.guards = some []) (hu : X.A.units + 64 < cLine) (e : X.K = K := by rfl) : CallR X (.builtin "repr") (rReprD K) := by
  subst e
  exact call_reprD hgd hu
end
end Zj
namespace Zj
open PySem PySem.Spec PyProof.Rows L2
/-- the law's call at the heap behind the top -/
theorem endG {P : Program} {w : World} {K : PySem.W.Frag} {mg mb : Str → Option Value} {k : Nat} {fa a : Addr} {fd : FuncData} {x : Str} {sp : Sp} {s1 : Shared} {vs : List Value} {ns : List Int}
    (KX : K.In s1.heap) (hns : s1.heap.Ns mainGlobals mg) (hb : s1.heap.Ns builtinsNs mb) (hbb : ∀ x : Str, x ≠ "__name__" → mb x = bootBuiltins x) (hlim : s1.heap.NoLimit) (hg : s1.gens = #[])
    (ha : s1.heap.get? a = some { cls := .type "list", data := .seq vs.toArray }) (hi : IntsAre vs ns) (hl : ns.length ≤ sizeLine) (hr : Room k callerA)
    (F : ∀ base : Heap, K.In base → base.Ns mainGlobals mg → FnG P w K mg base k fa fd [x] sp) (hbind : ∀ (s : Shared) (u : Value), BindsTo s fd ⟨[u], []⟩ [(x, u)])
    (hsp : ∀ H : Hp, SqL K H a (ns.map V.int) → sp [.ref a] H (fun v _ => v = .bl true) E0) :
    codeAny (model P w) callerA (.call (.ref fa) ⟨[.ref a], []⟩) (fun r s' => r = .ok (.ret (.bool true)) ∧ OldK s1.heap s'.heap ∧ s'.os = s1.os ∧ AllBare s'.gens) s1 := by
  have rv := vals_ints hi
  have main : ∀ H : Hp, SqL K H a (ns.map V.int) → HOk P w H s1.heap → (∀ b u, H b = some u → b = a ∧ K.lookup a = none ∧ ∃ o z, u = .frz o (.lst z)) →
      codeAny (model P w) callerA (.call (.ref fa) ⟨[.ref a], []⟩) (fun r s' => r = .ok (.ret (.bool true)) ∧ OldK s1.heap s'.heap ∧ s'.os = s1.os ∧ AllBare s'.gens) s1 := by
    intro H hS hok hA
    have free : ∀ {b : Addr} {o : Obj}, s1.heap.get? b = some o → (b = a → (∃ es ep, o.data = .dict es ep) ∨ K.lookup a = some o) → H b = none := fun {b o} e q => by
      cases h : H b with
      | none => rfl
      | some u =>
        obtain ⟨rfl, h2, _⟩ := hA b u h
        rcases q rfl with ⟨es, ep, d⟩ | d
        · rw [ha] at e
          cases e
          cases d
        · rw [h2] at d
          cases d
    have at_ns : ∀ {b : Addr} {m : Str → Option Value}, s1.heap.Ns b m → (hidT s1.heap H).Ns b m := fun ⟨o, es, ep, e, d, r⟩ => ⟨o, es, ep, hidT_get e (free e fun _ => .inl ⟨es, ep, d⟩), d, r⟩
    have KB : K.In (hidT s1.heap H) := fun b o e => hidT_get (KX b o e) (free (KX b o e) fun q => .inr (by rw [← q]; exact e))
    obtain ⟨mc, c1, c2⟩ := hlim
    have env : Env0 P w K mg (hidT s1.heap H) callerA [] s1 H := ⟨rfl, ⟨KB, at_ns hns, ⟨mb, at_ns hb, hbb⟩, ⟨mc, at_ns c1, c2⟩⟩, fun b o e => of_hidT e, Nat.le_of_eq (hidT_size _ _), trivial, (fun b q => nomatch q), hok, .of_eq hg⟩
    refine codeAny_mono ((F _ KB (at_ns hns)).go callerA [] s1 H ⟨[.ref a], []⟩ [.ref a] [.ref a] _ rfl hr env (hbind s1 (.ref a)) (.cons rfl .nil) (hsp H hS)) fun r s' h => ?_
    cases r with
    | error e => exact h.elim
    | ok fl =>
      cases fl with
      | next => exact h.elim
      | brk => exact h.elim
      | cont => exact h.elim
      | ret u =>
        obtain ⟨v, H', os, bare, un, hok', r', q⟩ := h
        obtain rfl : v = .bl true := q
        obtain rfl : u = Value.bool true := r'
        refine ⟨rfl, OldK.of_keep fun b o e => ?_, os, bare⟩
        cases q : H b with
        | none => exact un.keep b o e q (fun z => nomatch z) (fun z => nomatch z)
        | some u =>
          obtain ⟨_, _, o2, z2, rfl⟩ := hA b u q
          have t1 := (hok b _ q).1
          have t2 := (hok' b _ (un.frzs b o2 _ q)).1
          rw [t1] at e
          cases e
          exact t2
  cases hk : K.lookup a with
  | some o =>
    have e := KX a o hk
    rw [ha] at e
    cases e
    exact main (fun _ => none) (.inr ⟨_, vs.toArray, _, hk, rfl, rfl, rfl, by rw [List.size_toArray, hi.length]; exact hl, rv⟩) (fun _ _ z => nomatch z) fun _ _ z => nomatch z
  | none =>
    have one : ∀ (b : Addr) (u : HO), (if b = a then some (HO.frz { cls := .type "list", data := .seq vs.toArray } (.lst (ns.map V.int))) else none) = some u → b = a ∧ u = HO.frz { cls := .type "list", data := .seq vs.toArray } (.lst (ns.map V.int)) := fun b u z => by
      split at z
      · rename_i e
        exact ⟨e, (Option.some.inj z).symm⟩
      · cases z
    refine main (fun b => if b = a then some (.frz { cls := .type "list", data := .seq vs.toArray } (.lst (ns.map V.int))) else none) (.inl (.inr ⟨_, if_pos rfl⟩)) (fun b u z => ?_) fun b u z => ?_
    · obtain ⟨rfl, rfl⟩ := one b u z
      exact ⟨ha, by rw [List.length_map]; exact hl, vs, _, rv, ha⟩
    · obtain ⟨rfl, rfl⟩ := one b u z
      exact ⟨rfl, hk, _, _, rfl⟩
theorem walkG {l : PySem.W.OpenLaw} {n k : Nat} {q : Program} {loose : List Str} {XP : (Str → Option Value) → Heap → Prop} {YP : World → Heap → Prop} {d : DefRec} {K : Params → PySem.W.Frag} {sp : PySem.W.Frag → Sp} {x : Str}
    (hn : l.most = some n) (hn2 : n ≤ sizeLine) (hdf : d.params.defaults = []) (hr : Room k callerA) (hY : ∀ (w : World) (h : Heap), YP w h → (K w.params).In h)
    (F : ∀ (w : World) (mg : Str → Option Value) (fa : Addr) (h : Heap), (K w.params).In h → h.Ns mainGlobals mg → mg d.name = some (.ref fa) →
      ∃ fd : FuncData, (∀ (s : Shared) (u : Value), BindsTo s fd ⟨[u], []⟩ [(x, u)]) ∧ ∀ base : Heap, (K w.params).In base → base.Ns mainGlobals mg → FnG l.prog w (K w.params) mg base k fa fd [x] (sp (K w.params)))
    (hsp : ∀ (K : PySem.W.Frag) (H : Hp) (a : Addr) (ns : List Int), ns.length ≤ n → SqL K H a (ns.map V.int) → sp K [.ref a] H (fun v _ => v = .bl true) E0) :
    PySem.W.WalkO q loose XP YP l.row.toRowW d [] (fun f vs => PySem.call f vs) := by
  refine Att.attach_call hn hdf fun w s0 s1 mg mb fa o pm cd doc a vs ns G Y ho hd hcd hmg hobj hints hlen hg => ?_
  obtain ⟨fd, hb, hF⟩ := F w mg fa _ (hY w _ Y) G.T.g hmg
  exact endG (hY w _ Y) G.T.g G.T.b G.T.builtins G.T.nolimit hg hobj hints (Nat.le_trans hlen hn2) hr hF hb fun H hS => hsp _ H a ns hlen hS
end Zj
namespace Zj
open PySem L2
theorem lx5 (a b c k n a' b' c' k' n' : Int) : HT.lexLt [a, b, c, k, n] [a', b', c', k', n'] = true ↔ (a < a' ∨ (a = a' ∧ (b < b' ∨ (b = b' ∧ (c < c' ∨ (c = c' ∧ (k < k' ∨ (k = k' ∧ n < n')))))))) := by
  simp only [HT.lexLt]
  by_cases h1 : a = a'
  · rw [if_pos h1]
    by_cases h2 : b = b'
    · rw [if_pos h2]
      by_cases h3 : c = c'
      · rw [if_pos h3]
        by_cases h4 : k = k'
        · rw [if_pos h4]
          by_cases h5 : n = n'
          · rw [if_pos h5]
            constructor
            · intro h; cases h
            · omega
          · rw [if_neg h5, decide_eq_true_eq]
            omega
        · rw [if_neg h4, decide_eq_true_eq]
          omega
      · rw [if_neg h3, decide_eq_true_eq]
        omega
    · rw [if_neg h2, decide_eq_true_eq]
      omega
  · rw [if_neg h1, decide_eq_true_eq]
    omega
theorem lx_nxt {B : Int} {x : List Int} (h : Ver B x) : HT.lexLt x (nxt x) = true := by
  obtain ⟨a, b, c, k, n, rfl, h1⟩ := h
  unfold nxt
  simp only
  split
  · rw [lx5]; omega
  · rw [lx5]; omega
theorem lx_gap {B C : Int} {x y : List Int} (h : Ver B x) (h' : Ver C y) (e : HT.lexLt x y = true) : HT.lexLt y (nxt x) = false := by
  obtain ⟨a, b, c, k, n, rfl, h1⟩ := h
  obtain ⟨a', b', c', k', n', rfl, h1'⟩ := h'
  rw [lx5] at e
  cases q : HT.lexLt [a', b', c', k', n'] (nxt [a, b, c, k, n]) with
  | false => rfl
  | true =>
    exfalso
    unfold nxt at q
    simp only at q
    split at q
    · rw [lx5] at q; omega
    · rw [lx5] at q; omega
theorem nxt_early {B : Int} {x : List Int} (h : Ver B x) : ¬ ((nxt x)[3]? = some 3) := by
  obtain ⟨a, b, c, k, n, rfl, h1⟩ := h
  unfold nxt
  simp only
  split
  · simp; omega
  · simp
/-! repr of a tuple of bounded ints -/
theorem short_int {z : Int} (h0 : 0 ≤ z) (h : z < 10 ^ 13) : PyData.leavesShort 13 (.int z) = true := by
  show decide ((PyData.shown (.int z)).length ≤ 13) = true
  exact decide_eq_true (PyProof.Rows.toString_length_le h0 (by decide) h)
theorem short_ints : ∀ {x : List Int}, (∀ z ∈ x, 0 ≤ z ∧ z < 10 ^ 13) → PyData.leavesShortAll 13 (x.map PyData.int) = true
  | [], _ => rfl
  | z :: x, h => by
    have h1 := h z (List.mem_cons.mpr (.inl rfl))
    show (PyData.leavesShort 13 (.int z) && PyData.leavesShortAll 13 (x.map PyData.int)) = true
    rw [short_int h1.1 h1.2, short_ints fun y hy => h y (List.mem_cons.mpr (.inr hy))]
    rfl
theorem bulk_ints : ∀ x : List Int, PyData.bulkAll (x.map PyData.int) = x.length
  | [] => rfl
  | z :: x => by
    show PyData.bulk (.int z) + 1 + PyData.bulkAll (x.map PyData.int) = x.length + 1
    rw [bulk_ints x]
    show 0 + 1 + x.length = x.length + 1
    omega
theorem log_small {z : Int} (h0 : 0 ≤ z) (h : z < 10 ^ 13) : z.natAbs.log2 < 1920 := by
  have : z.natAbs < 2 ^ 1920 := Nat.lt_of_lt_of_le (show z.natAbs < 10 ^ 13 by omega) (by decide)
  by_cases e : z.natAbs = 0
  · rw [e]; decide
  · exact (Nat.log2_lt e).mpr this
theorem showable_ints : ∀ {x : List Int}, (∀ z ∈ x, 0 ≤ z ∧ z < 10 ^ 13) → PyData.showableAll (x.map PyData.int) = true
  | [], _ => rfl
  | z :: x, h => by
    have h1 := h z (List.mem_cons.mpr (.inl rfl))
    show (decide (z.natAbs.log2 < 1920) && PyData.showableAll (x.map PyData.int)) = true
    rw [decide_eq_true (log_small h1.1 h1.2), showable_ints fun y hy => h y (List.mem_cons.mpr (.inr hy))]
    rfl
/-- all that repr asks of a datum -/
def Rp (d : PyData) : Prop := d.showable = true ∧ SeqAt.shaped d = true ∧ d.depth < 60 ∧ d.shown.length ≤ sizeLine
theorem rp_of {d : PyData} (h1 : d.showable = true) (h2 : d.canLay0 = true) (h3 : d.depth < 60) (h4 : d.leavesShort 13 = true) (h5 : d.bulk ≤ 2 ^ 20) : Rp d := by
  refine ⟨h1, ?_, h3, PyData.shown_fits_bulk (by decide) (by decide) h4 h5⟩
  unfold SeqAt.shaped
  rw [Bool.and_eq_true]
  exact ⟨h2, decide_eq_true (by omega)⟩
theorem rp_ints {x : List Int} (h : ∀ z ∈ x, 0 ≤ z ∧ z < 10 ^ 13) (hl : x.length ≤ 100) : Rp (.tuple (x.map PyData.int)) := by
  have dp := dep_ints x
  refine rp_of (showable_ints h) (lay_ints x) ?_ (short_ints h) ?_
  · simp only [PyData.depth]; omega
  · show PyData.bulkAll (x.map PyData.int) ≤ 2 ^ 20
    rw [bulk_ints]; omega
theorem Ver.small {B : Int} {x : List Int} (h : Ver B x) (hB : B < 9999999999999) : ∀ z ∈ x, 0 ≤ z ∧ z < 10 ^ 13 := by
  obtain ⟨a, b, c, k, n, rfl, h1⟩ := h
  intro z hz
  simp only [List.mem_cons, List.not_mem_nil, or_false] at hz
  rcases hz with rfl | rfl | rfl | rfl | rfl <;> omega
theorem rp_ver {B : Int} {x : List Int} (h : Ver B x) (hB : B < 9999999999999) : Rp (.tuple (x.map PyData.int)) := by
  refine rp_ints (h.small hB) ?_
  obtain ⟨a, b, c, k, n, rfl, _⟩ := h
  show 5 ≤ 100
  decide

theorem Same.new {H : Hp} {p : Addr} {o : HO} (h : H p = none) : Same H (upd H p o) := fun b u e => by
  rw [upd_ne (ne_of_none e h)]
  exact e
theorem Same.out {H H' : Hp} {p : Addr} {o : HO} (k : Same H H') (h : H p = none) : Same H (upd H' p o) := fun b u e => by
  rw [upd_ne (ne_of_none e h)]
  exact k b u e
theorem cutV_map (ns : List Int) (lo hi : Option Int) : ∃ ms : List Int, cutV (ns.map V.int) lo hi = ms.map V.int ∧ ms.length ≤ ns.length := by
  refine ⟨(ns.drop (HT.sIx (ns.map V.int).length 0 lo)).take (HT.sIx (ns.map V.int).length (ns.map V.int).length hi - HT.sIx (ns.map V.int).length 0 lo), ?_, ?_⟩
  · unfold cutV
    rw [List.map_take, List.map_drop]
  · rw [List.length_take, List.length_drop]
    omega
theorem map_get {ns : List Int} {i : Nat} {y : V} (h : (ns.map V.int)[i]? = some y) : ∃ z, ns[i]? = some z ∧ y = V.int z := by
  rw [List.getElem?_map] at h
  cases e : ns[i]? with
  | none =>
    rw [e] at h
    cases h
  | some z =>
    rw [e] at h
    exact ⟨z, rfl, (Option.some.inj h).symm⟩
theorem merge_dkv (l : Addr) (m t : Int) : mergeK [] (dkv l m t) = dkv l m t := by
  simp [mergeK, dkv, putK, nLM, nLT, nMT]
theorem rep_all (n : Nat) : (List.replicate n true).all id = true := by
  induction n with
  | zero => rfl
  | succ n ih => rw [List.replicate_succ, List.all_cons, ih]; rfl
theorem rep_snoc {α : Type} (n : Nat) (a : α) : List.replicate n a ++ [a] = List.replicate (n + 1) a := by
  induction n with
  | zero => rfl
  | succ n ih =>
    rw [List.replicate_succ, List.cons_append, ih]
    rfl
theorem Ver.nonneg {B : Int} {x : List Int} (h : Ver B x) : ∀ z ∈ x, 0 ≤ z := by
  obtain ⟨a, b, c, k, n, rfl, h1, h2, h3, h4, h5, h6, h7, h8, h9, h10, h11⟩ := h
  intro z hz
  simp only [List.mem_cons, List.not_mem_nil, or_false] at hz
  rcases hz with rfl | rfl | rfl | rfl | rfl <;> omega
theorem Ver.len {B : Int} {x : List Int} (h : Ver B x) : x.length = 5 := by
  obtain ⟨a, b, c, k, n, rfl, _⟩ := h
  rfl
theorem Kp.same {d l : Addr} {H H' : Hp} (s : Same H H') : Kp d l H H' := fun b o _ _ e => s b o e
theorem notTT {A B : Prop} {x y : V} (e : x = y) (h : B) : if (!decide (x = y)) = true then A else B := iteNS e h
theorem lx_up {B : Int} {a b c k n : Int} (hk : k < 3) : HT.lexLt (nxt [a, b, c, k, n]) [a, b, c, k + 1, 0] = true := by
  have e : nxt [a, b, c, k, n] = [a, b, c, k, n + 1] := if_pos hk
  rw [e, lx5]
  omega
theorem IV.tup {K : PySem.W.Frag} {H : Hp} {p : Addr} {x : List Int} (h : SqT K H p (x.map V.int)) : IV K H (.ref p) x := ⟨p, rfl, h⟩
theorem tyx_tup {K : PySem.W.Frag} {H : Hp} {a : Addr} {xs : List V} (h : SqT K H a xs) : TyX K H (.ref a) (.type "tuple") := by
  rcases h with (h | ⟨o, h⟩) | ⟨o, us, n, h1, h2, _⟩
  · exact .base (.tup h)
  · exact .fTuple h
  · exact .kTuple h1 h2
end Zj

namespace Zj
open PySem L2
/-! ### ranges as data -/
abbrev Vr := List Int
abbrev Pr := Vr × Option Vr
abbrev Rg := List Pr
def HV (K : PySem.W.Frag) (H : Hp) (v : V) : Option Vr → Prop
  | none => v = .non
  | some y => IV K H v y
def PV (K : PySem.W.Frag) (H : Hp) (v : V) (p : Pr) : Prop := ∃ a lo hi, v = .ref a ∧ SqT K H a [lo, hi] ∧ IV K H lo p.1 ∧ HV K H hi p.2
def SV (K : PySem.W.Frag) (H : Hp) (v : V) (r : Rg) : Prop := ∃ a vs, v = .ref a ∧ SqT K H a vs ∧ Paired (PV K H) vs r
theorem HV.tk {K : PySem.W.Frag} {H H' : Hp} {v : V} : ∀ {o : Option Vr}, HV K H v o → TKp K H H' → HV K H' v o
  | none, h, _ => h
  | some _, h, k => h.same k
theorem PV.tk {K : PySem.W.Frag} {H H' : Hp} {v : V} {p : Pr} (h : PV K H v p) (k : TKp K H H') : PV K H' v p := by
  obtain ⟨a, lo, hi, e, h1, h2, h3⟩ := h
  exact ⟨a, lo, hi, e, k _ _ h1, h2.same k, h3.tk k⟩
theorem pvs_tk {K : PySem.W.Frag} {H H' : Hp} (k : TKp K H H') {vs : List V} {r : Rg} (h : Paired (PV K H) vs r) : Paired (PV K H') vs r := L2.Paired.mapP h fun _ _ q => q.tk k
theorem ivs_tk {K : PySem.W.Frag} {H H' : Hp} (k : TKp K H H') {vs : List V} {r : List Vr} (h : Paired (IV K H) vs r) : Paired (IV K H') vs r := L2.Paired.mapP h fun _ _ q => q.same k
theorem SV.tk {K : PySem.W.Frag} {H H' : Hp} {v : V} {r : Rg} (h : SV K H v r) (k : TKp K H H') : SV K H' v r := by
  obtain ⟨a, vs, e, h1, h2⟩ := h
  exact ⟨a, vs, e, k _ _ h1, pvs_tk k h2⟩
theorem paired_get {α β : Type} {F : α → β → Prop} : ∀ {l : List α} {m : List β} {i : Nat} {x : α}, Paired F l m → l[i]? = some x → ∃ y, m[i]? = some y ∧ F x y
  | _, _, _, _, .nil, e => by simp at e
  | _, _, 0, _, .cons r _, e => by
    simp at e
    subst e
    exact ⟨_, rfl, r⟩
  | _, _, i + 1, _, .cons _ t, e => by
    obtain ⟨y, h1, h2⟩ := paired_get (i := i) t (by simpa using e)
    exact ⟨y, by simpa using h1, h2⟩
theorem paired_get2 {α β : Type} {F : α → β → Prop} : ∀ {l : List α} {m : List β} {i : Nat} {y : β}, Paired F l m → m[i]? = some y → ∃ x, l[i]? = some x ∧ F x y
  | _, _, _, _, .nil, e => by simp at e
  | _, _, 0, _, .cons r _, e => by
    simp at e
    subst e
    exact ⟨_, rfl, r⟩
  | _, _, i + 1, _, .cons _ t, e => by
    obtain ⟨y, h1, h2⟩ := paired_get2 (i := i) t (by simpa using e)
    exact ⟨y, by simpa using h1, h2⟩
theorem paired_app {α β : Type} {F : α → β → Prop} : ∀ {l l' : List α} {m m' : List β}, Paired F l m → Paired F l' m' → Paired F (l ++ l') (m ++ m')
  | _, _, _, _, .nil, h => h
  | _, _, _, _, .cons r t, h => .cons r (paired_app t h)
theorem paired_take {α β : Type} {F : α → β → Prop} : ∀ {l : List α} {m : List β} (n : Nat), Paired F l m → Paired F (l.take n) (m.take n)
  | _, _, 0, _ => .nil
  | _, _, _ + 1, .nil => .nil
  | _, _, n + 1, .cons r t => .cons r (paired_take n t)
theorem paired_drop {α β : Type} {F : α → β → Prop} : ∀ {l : List α} {m : List β} (n : Nat), Paired F l m → Paired F (l.drop n) (m.drop n)
  | _, _, 0, h => h
  | _, _, _ + 1, .nil => .nil
  | _, _, n + 1, .cons _ t => paired_drop n t
theorem paired_len {α β : Type} {F : α → β → Prop} : ∀ {l : List α} {m : List β}, Paired F l m → l.length = m.length
  | _, _, .nil => rfl
  | _, _, .cons _ t => congrArg Nat.succ (paired_len t)
theorem paired_mem {α β : Type} {F : α → β → Prop} {l : List α} {m : List β} {x : α} (h : Paired F l m) (hx : x ∈ l) : ∃ y, y ∈ m ∧ F x y := by
  obtain ⟨i, hi⟩ := List.getElem?_of_mem hx
  obtain ⟨y, h1, h2⟩ := paired_get h hi
  exact ⟨y, List.mem_of_getElem? h1, h2⟩
/-- the borders one behind another -/
def flat (r : Rg) : List Vr := r.flatMap fun p => p.1 :: p.2.toList
def PrOK (B : Int) (p : Pr) : Prop := Ver B p.1 ∧ ∀ y, p.2 = some y → Ver B y
def lt (x y : Vr) : Prop := HT.lexLt x y = true
structure RgOK (B : Int) (r : Rg) : Prop where
  ver : ∀ p ∈ r, PrOK B p
  asc : (flat r).Pairwise lt
  fin : ∀ i p, i + 1 < r.length → r[i]? = some p → p.2 ≠ none
def inP (p : Pr) (x : Vr) : Bool := !HT.lexLt x p.1 && (match p.2 with | none => true | some y => HT.lexLt x y)
def inB (r : Rg) (x : Vr) : Bool := r.any fun p => inP p x
theorem le5 {B C : Int} {x y : Vr} (hx : Ver B x) (hy : Ver C y) : Ob.lexAt (fun j => decide (x.getD j 0 = y.getD j 0)) (fun j => decide (x.getD j 0 ≤ y.getD j 0)) (decide (x.length ≤ y.length)) 0 (min x.length y.length) = !HT.lexLt y x := by
  obtain ⟨a, b, c, k, n, rfl, _⟩ := hx
  obtain ⟨a', b', c', k', n', rfl, _⟩ := hy
  show Ob.lexAt _ _ (decide (5 ≤ 5)) 0 5 = _
  have e : HT.lexLt [a', b', c', k', n'] [a, b, c, k, n] = decide (a' < a ∨ (a' = a ∧ (b' < b ∨ (b' = b ∧ (c' < c ∨ (c' = c ∧ (k' < k ∨ (k' = k ∧ n' < n)))))))) := by
    by_cases q : HT.lexLt [a', b', c', k', n'] [a, b, c, k, n] = true
    · rw [q, decide_eq_true ((lx5 _ _ _ _ _ _ _ _ _ _).mp q)]
    · rw [Bool.not_eq_true _ |>.mp q, decide_eq_false fun z => q ((lx5 _ _ _ _ _ _ _ _ _ _).mpr z)]
  rw [e]
  simp only [Ob.lexAt, List.getD_cons_zero, List.getD_cons_succ, decide_eq_true_eq]
  by_cases h1 : a = a'
  · rw [if_pos h1]
    by_cases h2 : b = b'
    · rw [if_pos h2]
      by_cases h3 : c = c'
      · rw [if_pos h3]
        by_cases h4 : k = k'
        · rw [if_pos h4]
          by_cases h5 : n = n'
          · rw [if_pos h5]
            simp only [decide_eq_decide, ← decide_not]
            omega
          · rw [if_neg h5]
            simp only [decide_eq_decide, ← decide_not]
            omega
        · rw [if_neg h4]
          simp only [decide_eq_decide, ← decide_not]
          omega
      · rw [if_neg h3]
        simp only [decide_eq_decide, ← decide_not]
        omega
    · rw [if_neg h2]
      simp only [decide_eq_decide, ← decide_not]
      omega
  · rw [if_neg h1]
    simp only [decide_eq_decide, ← decide_not]
    omega
/-- adjacent ones ascend -/
def zl (xs : List Vr) : List Bool := List.zipWith HT.lexLt xs (xs.drop 1)
def ascB (xs : List Vr) : Bool := (zl xs).all id
theorem asc_of : ∀ {l : List Vr}, l.Pairwise lt → ascB l = true
  | [], _ => rfl
  | [_], _ => rfl
  | x :: y :: l, h => by
    cases h with
    | cons h1 h2 =>
      show (HT.lexLt x y && ascB (y :: l)) = true
      rw [h1 y (List.mem_cons.mpr (.inl rfl)), asc_of h2]
      rfl
theorem flat_snoc {r : Rg} {i : Nat} {p : Pr} (h : r[i]? = some p) : flat (r.take (i + 1)) = flat (r.take i) ++ (p.1 :: p.2.toList) := by
  have e : r.take (i + 1) = r.take i ++ [p] := by rw [List.take_add_one, h]; rfl
  unfold flat
  rw [e, List.flatMap_append]
  simp
theorem cutV_from (us : List V) (k : Nat) : cutV us (some (k : Int)) none = us.drop k := by
  unfold cutV
  rw [HT.sIx_nat, HT.sIx_none]
  by_cases h : k ≤ us.length
  · rw [Nat.min_eq_left h, List.take_of_length_le (by rw [List.length_drop]; omega)]
  · rw [Nat.min_eq_right (by omega), List.drop_of_length_le (Nat.le_refl _), List.drop_of_length_le (by omega)]
    simp
theorem sIx_m1 (n : Nat) : HT.sIx n n (some (-1)) = n - 1 := by
  show (if (-1 : Int) < 0 then (-1 + (n : Int)).toNat else min (-1 : Int).toNat n) = n - 1
  rw [if_pos (by decide)]
  omega
theorem cutV_init (us : List V) : cutV us none (some (-1)) = us.take (us.length - 1) := by
  unfold cutV
  rw [HT.sIx_none]
  show (us.drop 0).take (HT.sIx us.length us.length (some (-1)) - 0) = _
  have e := sIx_m1 us.length
  rw [e, List.drop_zero, Nat.sub_zero]
theorem cutV_to (us : List V) (k : Nat) : cutV us none (some (k : Int)) = us.take k := by
  unfold cutV
  rw [HT.sIx_nat, HT.sIx_none, List.drop_zero, Nat.sub_zero]
  by_cases h : k ≤ us.length
  · rw [Nat.min_eq_left h]
  · rw [Nat.min_eq_right (by omega), List.take_length, List.take_of_length_le (by omega)]
/-- any walk, the body told by its end -/
theorem gen_it {J : It} {n : Nat} {G : Hp → Prop} {Y : Nat → Hp → V → Hp → Prop} (w : Walk J n G Y) {B : V → Hp → (Hp → Prop) → Prop} {H0 : Hp} {Qd : Hp → Prop} (Pv : Nat → Hp → Prop) (h0 : Pv 0 H0) (hG : ∀ i H, i ≤ n → Pv i H → G H)
    (hs : ∀ i x H H', i < n → Pv i H → Y i H x H' → B x H' (Pv (i + 1))) (hd : ∀ H, Pv n H → Qd H) :
    ∃ W : Nat → Nat → Hp → Prop, (∃ m, W 0 m H0) ∧ ∀ i m H, W i m H → (J.stop i H ∧ Qd H) ∨ (J.go i H ∧ ∃ Nx : Hp → Prop, (∀ H', Nx H' → ∃ m', m' < m ∧ W (i + 1) m' H') ∧ ∀ x H', J.yld i H x H' → B x H' Nx) := by
  refine ⟨fun i m H => m = n - i ∧ i ≤ n ∧ Pv i H, ⟨n, rfl, Nat.zero_le _, h0⟩, ?_⟩
  rintro i m H ⟨rfl, hi, p⟩
  by_cases hlt : i < n
  · exact .inr ⟨w.goes i H hlt (hG i H hi p), Pv (i + 1), fun H' p' => ⟨n - (i + 1), by omega, rfl, hlt, p'⟩, fun x H' y => hs i x H H' hlt p (w.yields i H x H' hlt (hG i H hi p) y)⟩
  · obtain rfl : i = n := by omega
    exact .inl ⟨w.stops H (hG _ H hi p), hd H p⟩
/-! ### data of ranges -/
def HD : Option Vr → PyData
  | none => .none
  | some y => .tuple (y.map PyData.int)
def PD (p : Pr) : PyData := .tuple [.tuple (p.1.map PyData.int), HD p.2]
def RD (r : Rg) : PyData := .tuple (r.map PD)
theorem HV.dp {K : PySem.W.Frag} {H : Hp} {v : V} : ∀ {o : Option Vr}, HV K H v o → Dp K H v (HD o)
  | none, h => by
    cases (show v = V.non from h)
    exact .non
  | some y, h => IV.dp (show IV K H v y from h)
theorem PV.dp {K : PySem.W.Frag} {H : Hp} {v : V} {p : Pr} (h : PV K H v p) : Dp K H v (PD p) := by
  obtain ⟨a, lo, hi, rfl, h1, h2, h3⟩ := h
  exact .tup h1 (.cons h2.dp (.cons h3.dp .nil))
theorem pvs_dp {K : PySem.W.Frag} {H : Hp} : ∀ {vs : List V} {r : Rg}, Paired (PV K H) vs r → DpAll K H vs (r.map PD)
  | _, _, .nil => .nil
  | _, _, .cons h t => .cons h.dp (pvs_dp t)
theorem SV.dp {K : PySem.W.Frag} {H : Hp} {v : V} {r : Rg} (h : SV K H v r) : Dp K H v (RD r) := by
  obtain ⟨a, vs, rfl, h1, h2⟩ := h
  exact .tup h1 (pvs_dp h2)
/-- all that repr asks, part by part -/
structure Rq (d : PyData) (k n : Nat) : Prop where
  sh : d.showable = true
  ly : d.canLay0 = true
  dp : d.depth ≤ k
  lv : d.leavesShort 13 = true
  bk : d.bulk ≤ n
theorem Rq.rp {d : PyData} {k n : Nat} (h : Rq d k n) (hk : k < 60) (hn : n ≤ 2 ^ 20) : Rp d := rp_of h.sh h.ly (by have := h.dp; omega) h.lv (by have := h.bk; omega)
theorem Rq.tup0 : Rq (.tuple []) 1 0 := ⟨rfl, rfl, by decide, rfl, by decide⟩
theorem Rq.none : Rq .none 1 0 := ⟨rfl, rfl, by decide, rfl, by decide⟩
theorem Rq.bool (b : Bool) : Rq (.bool b) 1 0 := ⟨rfl, rfl, by simp [PyData.depth], rfl, by simp [PyData.bulk]⟩
theorem Rq.mono {d : PyData} {k n k' n' : Nat} (h : Rq d k n) (h1 : k ≤ k') (h2 : n ≤ n') : Rq d k' n' := ⟨h.sh, h.ly, Nat.le_trans h.dp h1, h.lv, Nat.le_trans h.bk h2⟩
theorem Rq.all {k n : Nat} : ∀ {ds : List PyData}, (∀ d ∈ ds, Rq d k n) → PyData.showableAll ds = true ∧ PyData.canLayAll0 ds = true ∧ PyData.depthAll ds ≤ k ∧ PyData.leavesShortAll 13 ds = true ∧ PyData.bulkAll ds ≤ ds.length * (n + 1)
  | [], _ => ⟨rfl, rfl, by simp [PyData.depthAll], rfl, by simp [PyData.bulkAll]⟩
  | d :: ds, h => by
    have h1 := h d (List.mem_cons.mpr (.inl rfl))
    obtain ⟨a1, a2, a3, a4, a5⟩ := Rq.all (ds := ds) fun e he => h e (List.mem_cons.mpr (.inr he))
    refine ⟨?_, ?_, ?_, ?_, ?_⟩
    · show (d.showable && PyData.showableAll ds) = true
      rw [h1.sh, a1]; rfl
    · show (d.canLay0 && PyData.canLayAll0 ds) = true
      rw [h1.ly, a2]; rfl
    · have := h1.dp
      simp only [PyData.depthAll]
      omega
    · show (d.leavesShort 13 && PyData.leavesShortAll 13 ds) = true
      rw [h1.lv, a4]; rfl
    · have := h1.bk
      simp only [PyData.bulkAll, List.length_cons, Nat.add_mul]
      omega
theorem Rq.tuple {ds : List PyData} {k n m : Nat} (h : ∀ d ∈ ds, Rq d k n) (hl : ds.length * (n + 1) ≤ m) : Rq (.tuple ds) (k + 1) m := by
  obtain ⟨a1, a2, a3, a4, a5⟩ := Rq.all h
  exact ⟨a1, a2, by simp only [PyData.depth]; omega, a4, by show PyData.bulkAll ds ≤ m; omega⟩
theorem Rq.list {ds : List PyData} {k n m : Nat} (h : ∀ d ∈ ds, Rq d k n) (hl : ds.length * (n + 1) ≤ m) : Rq (.list ds) (k + 1) m := by
  obtain ⟨a1, a2, a3, a4, a5⟩ := Rq.all h
  exact ⟨a1, a2, by simp only [PyData.depth]; omega, a4, by show PyData.bulkAll ds ≤ m; omega⟩
theorem rq_int {z : Int} (h0 : 0 ≤ z) (h : z < 10 ^ 13) : Rq (.int z) 1 0 := ⟨decide_eq_true (log_small h0 h), rfl, by simp [PyData.depth], short_int h0 h, by simp [PyData.bulk]⟩
theorem rq_ver {B : Int} {x : Vr} (h : Ver B x) (hB : B < 9999999999999) : Rq (.tuple (x.map PyData.int)) 2 5 := by
  have hs := h.small hB
  refine Rq.tuple (k := 1) (n := 0) (fun d hd => ?_) ?_
  · obtain ⟨z, hz, rfl⟩ := List.mem_map.mp hd
    exact rq_int (hs z hz).1 (hs z hz).2
  · rw [List.length_map, h.len]
    decide
theorem rq_hd {B : Int} {p : Pr} (h : PrOK B p) (hB : B < 9999999999999) : Rq (HD p.2) 2 5 := by
  cases e : p.2 with
  | none => exact Rq.none.mono (by decide) (by decide)
  | some y => exact rq_ver (h.2 y e) hB
theorem rq_pd {B : Int} {p : Pr} (h : PrOK B p) (hB : B < 9999999999999) : Rq (PD p) 3 12 := by
  refine Rq.tuple (k := 2) (n := 5) (fun d hd => ?_) (by show 2 * 6 ≤ 12; decide)
  simp only [List.mem_cons, List.not_mem_nil, or_false] at hd
  rcases hd with rfl | rfl
  · exact rq_ver h.1 hB
  · exact rq_hd h hB
theorem rq_rd {B : Int} {r : Rg} (h : RgOK B r) (hB : B < 9999999999999) (hl : r.length ≤ 1000) : Rq (RD r) 4 13000 := by
  refine Rq.tuple (k := 3) (n := 12) (fun d hd => ?_) ?_
  · obtain ⟨p, hp, rfl⟩ := List.mem_map.mp hd
    exact rq_pd (h.ver p hp) hB
  · rw [List.length_map]
    omega
theorem eqv_nilT (ds : List PyData) : PyData.eqv (.tuple ds) (.tuple []) = ds.isEmpty := by
  cases ds <;> rfl

/-! ### sorted(set(..)) of versions -/
theorem lx_tri {B C : Int} {x y : Vr} (hx : Ver B x) (hy : Ver C y) : HT.lexLt x y = true ∨ x = y ∨ HT.lexLt y x = true := by
  obtain ⟨a, b, c, k, n, rfl, _⟩ := hx
  obtain ⟨a', b', c', k', n', rfl, _⟩ := hy
  rw [lx5, lx5]
  by_cases h : a = a' ∧ b = b' ∧ c = c' ∧ k = k' ∧ n = n'
  · obtain ⟨rfl, rfl, rfl, rfl, rfl⟩ := h
    exact .inr (.inl rfl)
  · omega
theorem lx_code {B : Int} : ∀ {x y : Vr}, x.length = y.length → TS.Bd B x → TS.Bd B y → HT.lexLt x y = true → TS.code B x < TS.code B y
  | [], [], _, _, _, h => by simp [HT.lexLt] at h
  | a :: x, b :: y, hl, hx, hy, h => by
    have hl' : x.length = y.length := by simpa using hl
    have bx : TS.Bd B x := fun m hm => hx m (List.mem_cons.mpr (.inr hm))
    have by' : TS.Bd B y := fun m hm => hy m (List.mem_cons.mpr (.inr hm))
    simp only [HT.lexLt] at h
    by_cases e : a = b
    · rw [if_pos e] at h
      subst e
      have ih := lx_code hl' bx by' h
      have e1 : ∀ z : Vr, TS.code B (a :: z) = a * B ^ z.length + TS.code B z := fun z => by
        first
          | rfl
          | simp [TS.code]
      rw [e1, e1, hl']
      omega
    · rw [if_neg e] at h
      exact TS.code_lt hl' bx by' (of_decide_eq_true h)
theorem Ver.bd {B : Int} {x : Vr} (h : Ver B x) (hB : 3 ≤ B) : TS.Bd (B + 1) x := by
  obtain ⟨a, b, c, k, n, rfl, h1⟩ := h
  intro m hm
  simp only [List.mem_cons, List.not_mem_nil, or_false] at hm
  rcases hm with rfl | rfl | rfl | rfl | rfl <;> omega
theorem perm_paired {α β : Type} {F : α → β → Prop} {l l' : List α} (h : l.Perm l') : ∀ {m' : List β}, Paired F l' m' → ∃ m, m.Perm m' ∧ Paired F l m := by
  induction h with
  | nil => intro m' q; exact ⟨m', .refl _, q⟩
  | cons x _ ih =>
    intro m' q
    cases q with
    | cons r t =>
      obtain ⟨m, h1, h2⟩ := ih t
      exact ⟨_ :: m, h1.cons _, .cons r h2⟩
  | swap x y l =>
    intro m' q
    cases q with
    | cons r t =>
      cases t with
      | cons r2 t2 => exact ⟨_, .swap .., .cons r2 (.cons r t2)⟩
  | trans _ _ ih1 ih2 =>
    intro m' q
    obtain ⟨m2, h1, h2⟩ := ih2 q
    obtain ⟨m1, h3, h4⟩ := ih1 h2
    exact ⟨m1, h3.trans h1, h4⟩
theorem paired_pick {K : PySem.W.Frag} {H : Hp} : ∀ {us : List V} {xs : List Vr}, Paired (IV K H) us xs → ∃ ks : List (Addr × List Int), us = ks.map (fun p => V.ref p.1) ∧ xs = ks.map (·.2) ∧ ∀ p ∈ ks, SqT K H p.1 (p.2.map V.int)
  | _, _, .nil => ⟨[], rfl, rfl, fun _ h => nomatch h⟩
  | _, _, .cons h t => by
    obtain ⟨ks, rfl, rfl, h3⟩ := paired_pick t
    obtain ⟨a, rfl, ha⟩ := h
    exact ⟨(a, _) :: ks, rfl, rfl, fun p hp => by
      rcases List.mem_cons.mp hp with rfl | q
      · exact ha
      · exact h3 p q⟩
theorem nd_le {α : Type} [DecidableEq α] : ∀ {l m : List α}, l.Nodup → (∀ x ∈ l, x ∈ m) → l.length ≤ m.length
  | [], _, _, _ => Nat.zero_le _
  | a :: l, m, h, s => by
    obtain ⟨h1, h2⟩ := List.nodup_cons.mp h
    have ham := s a (List.mem_cons.mpr (.inl rfl))
    have ih := nd_le (m := m.erase a) h2 fun x hx => (List.mem_erase_of_ne (fun e => h1 (by rw [← e]; exact hx))).mpr (s x (List.mem_cons.mpr (.inr hx)))
    rw [List.length_erase_of_mem ham] at ih
    have : 0 < m.length := List.length_pos_of_mem ham
    rw [List.length_cons]
    omega
theorem lx_irr : ∀ x : Vr, HT.lexLt x x = false
  | [] => rfl
  | a :: x => by
    simp only [HT.lexLt]
    rw [if_pos trivial]
    exact lx_irr x
theorem asc_nd {xs : List Vr} (h : xs.Pairwise lt) : xs.Nodup := h.imp fun {a b} q e => by
  subst e
  rw [lt, lx_irr] at q
  cases q
theorem sortset {K : PySem.W.Frag} {P : Program} {w : World} {H : Hp} {l : Addr} {us : List V} {xs : List Vr} {B : Int} {Q : VK} (hl : SqL K H l us) (hu : Paired (IV K H) us xs) (hv : ∀ x ∈ xs, Ver B x) (hB : 3 ≤ B) (hn : xs.length < 64)
    (k : ∀ H' p us' xs', Same H H' → H p = none → H' p = some (.lst us') → Paired (IV K H') us' xs' → xs'.Pairwise lt → (∀ x, x ∈ xs' ↔ x ∈ xs) → (∀ u ∈ us', u ∈ us) → xs'.length ≤ xs.length → Q (.ref p) H') :
    rSetOfT K P w [V.ref l] H (fun v H1 => rSortedT K P w [v] H1 Q) := by
  obtain ⟨ks, rfl, rfl, h3⟩ := paired_pick hu
  refine ⟨l, ks, rfl, hl, h3, by rw [List.length_map] at hn; exact hn, fun a L ha hL1 hL2 => ?_⟩
  have s1 : Same H (upd H a (SetTO P w a L)) := Same.new ha
  refine ⟨a, L, 5, B + 1, rfl, upd_same, fun p hp => tupS_same s1 (h3 p (hL1 p hp)), by decide, fun p hp => ?_, fun L' p perm nd hlen pw hp => ?_⟩
  · have := hv p.2 (List.mem_map.mpr ⟨p, hL1 p hp, rfl⟩)
    exact ⟨this.len, this.bd hB⟩
  · have s2 := s1.trans (Same.new (o := .lst (L'.map fun q => V.ref q.1)) hp)
    have hL : ∀ q ∈ L', q ∈ ks := fun q hq => hL1 q (perm.mem_iff.mp hq)
    have vr : ∀ q ∈ L', Ver B q.2 := fun q hq => hv q.2 (List.mem_map.mpr ⟨q, hL q hq, rfl⟩)
    have asc : (L'.map (·.2)).Pairwise lt := by
      have nd' : L'.Pairwise (fun q r => q.2 ≠ r.2) := List.pairwise_map.mp nd
      refine List.pairwise_map.mpr (List.Pairwise.imp_of_mem (fun {q r} hq hr z => ?_) (pw.and nd'))
      obtain ⟨z1, z2⟩ := z
      rcases lx_tri (vr q hq) (vr r hr) with e | e | e
      · exact e
      · exact absurd e z2
      · exfalso
        have := lx_code ((vr r hr).len.trans (vr q hq).len.symm) ((vr r hr).bd hB) ((vr q hq).bd hB) e
        omega
    have mem : ∀ x, x ∈ L'.map (·.2) ↔ x ∈ ks.map (·.2) := by
      intro x
      constructor
      · intro hx
        obtain ⟨q, hq, rfl⟩ := List.mem_map.mp hx
        exact List.mem_map.mpr ⟨q, hL q hq, rfl⟩
      · intro hx
        obtain ⟨q, hq, rfl⟩ := List.mem_map.mp hx
        have := hL2 q hq
        exact (perm.map (·.2)).mem_iff.mpr this
    refine k _ p _ (L'.map (·.2)) s2 (s1.free hp) upd_same ?_ asc mem ?_ (nd_le (asc_nd asc) fun x hx => (mem x).mp hx)
    · have : ∀ M : List (Addr × List Int), (∀ q ∈ M, SqT K H q.1 (q.2.map V.int)) → Paired (IV K (upd (upd H a (SetTO P w a L)) p (.lst (L'.map fun q => V.ref q.1)))) (M.map fun q => V.ref q.1) (M.map (·.2)) := fun M => by
        induction M with
        | nil => intro _; exact .nil
        | cons q M ih => intro h; exact .cons ⟨q.1, rfl, tupS_same s2 (h q (List.mem_cons.mpr (.inl rfl)))⟩ (ih fun z hz => h z (List.mem_cons.mpr (.inr hz)))
      exact this L' fun q hq => h3 q (hL q hq)
    · intro u hu'
      obtain ⟨q, hq, rfl⟩ := List.mem_map.mp hu'
      exact List.mem_map.mpr ⟨q, hL q hq, rfl⟩
/-! ### pairs out of borders -/
def prs : List Vr → Rg
  | x :: y :: l => (x, some y) :: prs l
  | [x] => [(x, none)]
  | [] => []
theorem prs_flat : ∀ l : List Vr, flat (prs l) = l
  | [] => rfl
  | [x] => rfl
  | x :: y :: l => by
    show x :: y :: flat (prs l) = _
    rw [prs_flat l]
theorem prs_len : ∀ l : List Vr, (prs l).length = (l.length + 1) / 2
  | [] => by simp [prs]
  | [x] => by simp [prs]
  | x :: y :: l => by
    simp only [prs, List.length_cons]
    show (prs l).length + 1 = (l.length + 1 + 1 + 1) / 2
    rw [prs_len l]
    omega
theorem prs_get : ∀ {l : List Vr} {i : Nat} {x y : Vr}, l[2 * i]? = some x → l[2 * i + 1]? = some y → (prs l)[i]? = some (x, some y)
  | [], _, _, _, h, _ => by simp at h
  | [a], i, _, _, _, h => by simp at h
  | a :: b :: l, 0, x, y, h1, h2 => by
    simp at h1 h2
    subst h1 h2
    rfl
  | a :: b :: l, i + 1, x, y, h1, h2 => by
    have e1 : 2 * (i + 1) = 2 * i + 1 + 1 := by omega
    rw [e1, List.getElem?_cons_succ, List.getElem?_cons_succ] at h1
    have e2 : 2 * (i + 1) + 1 = 2 * i + 1 + 1 + 1 := by omega
    rw [e2, List.getElem?_cons_succ, List.getElem?_cons_succ] at h2
    exact prs_get (l := l) h1 h2
theorem prs_odd : ∀ {l : List Vr} {x : Vr}, l.length % 2 = 1 → l[l.length - 1]? = some x → prs l = (prs l).take (l.length / 2) ++ [(x, none)]
  | [], _, h, _ => by simp at h
  | [a], x, _, h => by
    simp at h
    subst h
    simp [prs]
  | a :: b :: l, x, h, e => by
    have h' : l.length % 2 = 1 := by simp at h; omega
    have e' : l[l.length - 1]? = some x := by
      have e1 : (a :: b :: l).length - 1 = (l.length - 1) + 1 + 1 := by simp; omega
      rw [e1, List.getElem?_cons_succ, List.getElem?_cons_succ] at e
      exact e
    have ih := prs_odd h' e'
    have e2 : (a :: b :: l).length / 2 = l.length / 2 + 1 := by simp only [List.length_cons]; omega
    rw [e2]
    simp only [prs]
    show (a, some b) :: prs l = (a, some b) :: ((prs l).take (l.length / 2) ++ [(x, none)])
    rw [← ih]
theorem prs_fin : ∀ (l : List Vr) (i : Nat) (p : Pr), i + 1 < (prs l).length → (prs l)[i]? = some p → p.2 ≠ none
  | [], _, _, h, _ => by simp [prs] at h
  | [x], _, _, h, _ => by simp [prs] at h
  | x :: y :: l, 0, p, _, h => by
    simp [prs] at h
    subst h
    simp
  | x :: y :: l, i + 1, p, hl, h => by
    simp only [prs, List.length_cons, List.getElem?_cons_succ] at hl h
    exact prs_fin l i p (by omega) h
theorem prs_mem : ∀ {l : List Vr} {p : Pr}, p ∈ prs l → p.1 ∈ l ∧ ∀ y, p.2 = some y → y ∈ l
  | [], _, h => by simp [prs] at h
  | [x], p, h => by
    simp [prs] at h
    subst h
    simp
  | x :: y :: l, p, h => by
    simp only [prs, List.mem_cons] at h
    rcases h with rfl | h
    · simp
    · obtain ⟨h1, h2⟩ := prs_mem h
      exact ⟨List.mem_cons_of_mem _ (List.mem_cons_of_mem _ h1), fun z hz => List.mem_cons_of_mem _ (List.mem_cons_of_mem _ (h2 z hz))⟩
theorem prs_ok {B : Int} {l : List Vr} (h : l.Pairwise lt) (hv : ∀ x ∈ l, Ver B x) : RgOK B (prs l) :=
  ⟨fun p hp => ⟨hv _ (prs_mem hp).1, fun y hy => hv y ((prs_mem hp).2 y hy)⟩, by rw [prs_flat]; exact h, prs_fin l⟩
theorem rgc2 {m : Nat} (h : m < 64) : RgC 0 ((m : Int) - 1) 2 (m / 2) := by
  have H : ∀ m : _root_.Fin 64, (Builtin.Range.small 0 ((m.val : Int) - 1) 2 = true ∧ Builtin.Range.rangeSize 0 ((m.val : Int) - 1) 2 = (m.val / 2 : Nat)) := by decide +kernel
  obtain ⟨h1, h2⟩ := H ⟨m, h⟩
  exact ⟨by decide, by decide, h1, h2⟩
end Zj

namespace Zj
open PySem PySem.Spec PyProof.Rows L2

def kwG2 (us ws : List Value) : List Value := match us, ws with | [], [v, s] => [s, v] | _, _ => []
def kwV2 (vs zs : List V) : List V := match vs, zs with | [], [v, s] => [s, v] | _, _ => []
theorem kb2 {K : PySem.W.Frag} {q qual : Str} {st : Stmt} {f : Addr} {fd : FuncData} {n m : Str} (F : Fun K q qual st f fd)
    (h : ∀ (kV doc pm : Value) (an : Option Addr) (cdv ct v s : Value), bindArgs (PySem.W.fnOf q qual (defArgs st) (defBody st) (defScope st) .none kV doc pm an cdv ct) ⟨[], [(n, v), (m, s)]⟩ = pure [(m, s), (n, v)]) : KBinds K fd [m, n] [n, m] kwG2 kwV2 := by
  obtain ⟨oc, od, kV, doc, pm, an, cdv, ct, osl, rfl, lk, hcd⟩ := F.ex
  refine ⟨fun s us ws _ hl => ?_, fun {vs us zs ws} r rz => ?_⟩
  · match us, ws, hl with
    | [], [v, s], _ => exact .of_eq (h kV doc pm an cdv ct v s)
  · cases r with
    | nil =>
      cases rz with
      | nil => exact .nil
      | cons r1 t1 =>
        cases t1 with
        | nil => exact .nil
        | cons r2 t2 =>
          cases t2 with
          | nil => exact .cons r2 (.cons r1 .nil)
          | cons _ _ => exact .nil
    | cons _ _ =>
      cases rz <;> exact .nil
theorem PrOK.mono {B C : Int} {p : Pr} (h : PrOK B p) (hc : B ≤ C) : PrOK C p := ⟨h.1.mono hc, fun y hy => (h.2 y hy).mono hc⟩
theorem RgOK.mono {B C : Int} {r : Rg} (h : RgOK B r) (hc : B ≤ C) : RgOK C r := ⟨fun p hp => (h.ver p hp).mono hc, h.asc, h.fin⟩
theorem eqv_ints : ∀ x y : Vr, PyData.eqv (.tuple (y.map PyData.int)) (.tuple (x.map PyData.int)) = decide (y = x) := by
  have H : ∀ x y : Vr, PyData.eqvAll (y.map PyData.int) (x.map PyData.int) = decide (y = x) := fun x => by
    induction x with
    | nil => intro y; cases y <;> rfl
    | cons a x ih =>
      intro y
      cases y with
      | nil => rfl
      | cons b y =>
        show (PyData.eqv (.int b) (.int a) && PyData.eqvAll (y.map PyData.int) (x.map PyData.int)) = _
        rw [ih y]
        have : PyData.eqv (.int b) (.int a) = decide (b = a) := by
          show (b == a) = _
          rfl
        rw [this]
        by_cases e1 : b = a
        · by_cases e2 : y = x
          · rw [decide_eq_true e1, decide_eq_true e2, decide_eq_true (by rw [e1, e2])]; rfl
          · rw [decide_eq_true e1, decide_eq_false e2, decide_eq_false (fun q => e2 (List.cons.inj q).2)]; rfl
        · rw [decide_eq_false e1, decide_eq_false (fun q => e1 (List.cons.inj q).1)]; rfl
  exact fun x y => H x y
theorem only_in {B C : Int} {x y : Vr} (hx : Ver B x) (hy : Ver C y) : inB [(x, some (nxt x))] y = decide (y = x) := by
  show (inP (x, some (nxt x)) y || false) = _
  rw [Bool.or_false]
  show (!HT.lexLt y x && HT.lexLt y (nxt x)) = _
  by_cases e : y = x
  · subst e
    rw [lx_irr, lx_nxt hy, decide_eq_true rfl]
    rfl
  · rw [decide_eq_false e]
    rcases lx_tri hx hy with q | q | q
    · rw [lx_gap hx hy q, Bool.and_false]
    · exact absurd q.symm e
    · rw [q]; rfl
theorem only_ok {B : Int} {x : Vr} (hx : Ver B x) : RgOK (B + 1) [(x, some (nxt x))] :=
  prs_ok (l := [x, nxt x]) (List.pairwise_cons.mpr ⟨fun y hy => by rw [List.mem_singleton.mp hy]; exact lx_nxt hx, List.pairwise_singleton _ _⟩) (fun y hy => by
    simp only [List.mem_cons, List.not_mem_nil, or_false] at hy
    rcases hy with rfl | rfl
    · exact hx.mono (by omega)
    · exact hx.nxt)
theorem whole_ok {B : Int} (hB : 3 ≤ B) : RgOK B [([0, 0, 0, 0, 0], none)] :=
  prs_ok (l := [[0, 0, 0, 0, 0]]) (List.pairwise_singleton _ _) (fun x hx => by
    rw [List.mem_singleton.mp hx]
    exact ⟨0, 0, 0, 0, 0, rfl, by omega⟩)
theorem empty_ok {B : Int} : RgOK B [] := ⟨(fun _ h => nomatch h), List.Pairwise.nil, (fun i p h _ => absurd h (by simp))⟩
theorem whole_in {B : Int} {x : Vr} (hx : Ver B x) : inB [([0, 0, 0, 0, 0], none)] x = true := by
  show (inP _ x || false) = true
  rw [Bool.or_false]
  show (!HT.lexLt x [0, 0, 0, 0, 0] && true) = true
  obtain ⟨a, b, c, k, n, rfl, h⟩ := hx
  cases q : HT.lexLt [a, b, c, k, n] [0, 0, 0, 0, 0] with
  | false => rfl
  | true =>
    rw [lx5] at q
    omega
theorem flat_len (r : Rg) : (flat r).length ≤ 2 * r.length := by
  induction r with
  | nil => exact Nat.le_refl _
  | cons p r ih =>
    have e : flat (p :: r) = (p.1 :: p.2.toList) ++ flat r := rfl
    rw [e, List.length_append, List.length_cons, List.length_cons]
    have : p.2.toList.length ≤ 1 := by cases p.2 <;> simp
    omega
end Zj

namespace Zj
open PySem L2
/-! ### operations on ranges -/
theorem lx_trans : ∀ {x y z : Vr}, HT.lexLt x y = true → HT.lexLt y z = true → HT.lexLt x z = true
  | [], [], _, h, _ => by simp [HT.lexLt] at h
  | [], _ :: _, [], _, h => by simp [HT.lexLt] at h
  | [], _ :: _, _ :: _, _, _ => rfl
  | _ :: _, [], _, h, _ => by simp [HT.lexLt] at h
  | _ :: _, _ :: _, [], _, h => by simp [HT.lexLt] at h
  | a :: x, b :: y, c :: z, h, k => by
    simp only [HT.lexLt] at h k ⊢
    by_cases e : a = b
    · subst e
      rw [if_pos rfl] at h
      by_cases e2 : a = c
      · subst e2
        rw [if_pos rfl] at k ⊢
        exact lx_trans h k
      · rw [if_neg e2] at k ⊢
        exact k
    · rw [if_neg e] at h
      have h := of_decide_eq_true h
      by_cases e2 : b = c
      · subst e2
        rw [if_neg e]
        exact decide_eq_true h
      · rw [if_neg e2] at k
        have k := of_decide_eq_true k
        rw [if_neg (by omega)]
        exact decide_eq_true (by omega)
/-- b is not above x -/
def le (b x : Vr) : Bool := !HT.lexLt x b
theorem le_f {b x : Vr} : le b x = false ↔ HT.lexLt x b = true := by unfold le; simp
theorem le_t {b x : Vr} : le b x = true ↔ HT.lexLt x b = false := by unfold le; simp
theorem le_rfl (b : Vr) : le b b = true := le_t.mpr (lx_irr b)
theorem le_back {b c x : Vr} (h : lt b c) (k : le c x = true) : le b x = true := by
  rw [le_t] at k ⊢
  cases e : HT.lexLt x b with
  | false => rfl
  | true => rw [lx_trans e h] at k; cases k
theorem lx_tot : ∀ x y : Vr, HT.lexLt x y = true ∨ x = y ∨ HT.lexLt y x = true
  | [], [] => .inr (.inl rfl)
  | [], _ :: _ => .inl rfl
  | _ :: _, [] => .inr (.inr rfl)
  | a :: x, b :: y => by
    simp only [HT.lexLt]
    by_cases e : a = b
    · subst e
      rw [if_pos rfl, if_pos rfl]
      rcases lx_tot x y with q | q | q
      · exact .inl q
      · exact .inr (.inl (by rw [q]))
      · exact .inr (.inr q)
    · rw [if_neg e, if_neg (fun z => e z.symm)]
      by_cases h : a < b
      · exact .inl (decide_eq_true h)
      · exact .inr (.inr (decide_eq_true (by omega)))
theorem le_trans {c b x : Vr} (h : le c b = true) (k : le b x = true) : le c x = true := by
  rcases lx_tot c b with q | q | q
  · exact le_back q k
  · rw [q]; exact k
  · rw [le_t.mp h] at q; cases q
theorem le_of_lt {b c : Vr} (h : lt b c) : le b c = true := le_back h (le_rfl c)
theorem lt_not {b c : Vr} (h : lt b c) : le c b = false := le_f.mpr h
/-- how many borders are not above x: odd -/
def par : List Vr → Vr → Bool
  | [], _ => false
  | b :: l, x => Bool.xor (le b x) (par l x)
theorem par_above : ∀ {l : List Vr} {x : Vr}, (∀ b ∈ l, le b x = false) → par l x = false
  | [], _, _ => rfl
  | b :: l, x, h => by
    show Bool.xor (le b x) (par l x) = false
    rw [h b (List.mem_cons.mpr (.inl rfl)), par_above fun c hc => h c (List.mem_cons.mpr (.inr hc))]
    rfl
theorem par_congr : ∀ {l : List Vr} {x y : Vr}, (∀ b ∈ l, le b x = le b y) → par l x = par l y
  | [], _, _, _ => rfl
  | b :: l, x, y, h => by
    show Bool.xor (le b x) (par l x) = Bool.xor (le b y) (par l y)
    rw [h b (List.mem_cons.mpr (.inl rfl)), par_congr fun c hc => h c (List.mem_cons.mpr (.inr hc))]
theorem prs_par : ∀ {l : List Vr} {x : Vr}, l.Pairwise lt → inB (prs l) x = par l x
  | [], _, _ => rfl
  | [b], x, _ => by
    show ((le b x && true) || false) = Bool.xor (le b x) false
    cases le b x <;> rfl
  | b :: c :: l, x, h => by
    obtain ⟨h1, h⟩ := List.pairwise_cons.mp h
    obtain ⟨h2, h3⟩ := List.pairwise_cons.mp h
    show ((le b x && HT.lexLt x c) || inB (prs l) x) = Bool.xor (le b x) (Bool.xor (le c x) (par l x))
    rw [prs_par h3]
    have bc := h1 c (List.mem_cons.mpr (.inl rfl))
    cases e : le c x with
    | true =>
      rw [le_back bc e, le_t.mp e]
      cases par l x <;> rfl
    | false =>
      rw [le_f.mp e, par_above fun d hd => le_f.mpr (lx_trans (le_f.mp e) (h2 d hd))]
      cases le b x <;> rfl
theorem prs_of : ∀ {r : Rg}, (∀ i p, i + 1 < r.length → r[i]? = some p → p.2 ≠ none) → r = prs (flat r)
  | [], _ => rfl
  | [(b, none)], _ => rfl
  | [(b, some c)], _ => rfl
  | (b, none) :: q :: r, h => absurd rfl (h 0 (b, none) (by simp) rfl)
  | (b, some c) :: q :: r, h => by
    show _ = (b, some c) :: prs (flat (q :: r))
    rw [← prs_of (r := q :: r) fun i p hi hp => h (i + 1) p (by simpa using hi) (by simpa using hp)]
theorem RgOK.par {B : Int} {r : Rg} (h : RgOK B r) (x : Vr) : inB r x = par (flat r) x := by
  have e := prs_of h.fin
  exact (congrArg (fun s => inB s x) e).trans (prs_par h.asc)
theorem par_ext {B C : Int} : ∀ {l m : List Vr}, l.Pairwise lt → m.Pairwise lt → (∀ x ∈ l, Ver B x) → (∀ x ∈ m, Ver C x) → (∀ x, par l x = par m x) → l = m
  | [], [], _, _, _, _, _ => rfl
  | [], b :: m, _, hm, _, _, h => by
    have e := h b
    have e1 : par (b :: m) b = true := by
      show Bool.xor (le b b) (par m b) = true
      rw [le_rfl, par_above fun d hd => lt_not ((List.pairwise_cons.mp hm).1 d hd)]
      rfl
    rw [e1] at e
    cases e
  | b :: l, [], hl, _, _, _, h => by
    have e := h b
    have e1 : par (b :: l) b = true := by
      show Bool.xor (le b b) (par l b) = true
      rw [le_rfl, par_above fun d hd => lt_not ((List.pairwise_cons.mp hl).1 d hd)]
      rfl
    rw [e1] at e
    cases e
  | a :: l, b :: m, hl, hm, vl, vm, h => by
    have hl' := List.pairwise_cons.mp hl
    have hm' := List.pairwise_cons.mp hm
    have pa : par (a :: l) a = true := by
      show Bool.xor (le a a) (par l a) = true
      rw [le_rfl, par_above fun d hd => lt_not (hl'.1 d hd)]
      rfl
    have pb : par (b :: m) b = true := by
      show Bool.xor (le b b) (par m b) = true
      rw [le_rfl, par_above fun d hd => lt_not (hm'.1 d hd)]
      rfl
    rcases lx_tri (vl a (List.mem_cons.mpr (.inl rfl))) (vm b (List.mem_cons.mpr (.inl rfl))) with q | q | q
    · have e := h a
      rw [pa, par_above fun d hd => by
        rcases List.mem_cons.mp hd with z | z
        · rw [z]; exact lt_not q
        · exact lt_not (lx_trans q (hm'.1 d z))] at e
      cases e
    · subst q
      congr 1
      refine par_ext hl'.2 hm'.2 (fun x hx => vl x (List.mem_cons.mpr (.inr hx))) (fun x hx => vm x (List.mem_cons.mpr (.inr hx))) fun x => ?_
      have e : Bool.xor (le a x) (par l x) = Bool.xor (le a x) (par m x) := h x
      cases q1 : le a x <;> cases q2 : par l x <;> cases q3 : par m x <;> rw [q1, q2, q3] at e <;> first | rfl | cases e
    · have e := h b
      rw [pb, par_above fun d hd => by
        rcases List.mem_cons.mp hd with z | z
        · rw [z]; exact lt_not q
        · exact lt_not (lx_trans q (hl'.1 d z))] at e
      cases e
theorem flat_ver {B : Int} {r : Rg} (h : RgOK B r) : ∀ x ∈ flat r, Ver B x := fun x hx => by
  obtain ⟨p, hp, hq⟩ := List.mem_flatMap.mp hx
  rcases List.mem_cons.mp hq with z | z
  · rw [z]; exact (h.ver p hp).1
  · exact (h.ver p hp).2 x (by
      cases e : p.2 with
      | none => rw [e] at z; cases z
      | some y =>
        rw [e] at z
        rcases List.mem_cons.mp z with q | q
        · rw [q]
        · cases q)
/-- equal exactly if the same versions are in them -/
theorem rg_ext {B C : Int} {r s : Rg} (hr : RgOK B r) (hs : RgOK C s) (h : ∀ x, inB r x = inB s x) : r = s := by
  have e := par_ext hr.asc hs.asc (flat_ver hr) (flat_ver hs) fun x => by rw [← hr.par x, ← hs.par x]; exact h x
  rw [prs_of hr.fin, prs_of hs.fin, e]
/-- where g changes -/
def turns (g : Vr → Bool) : Bool → List Vr → List Vr
  | _, [] => []
  | i, b :: l => if (g b != i) = true then b :: turns g (!i) l else turns g i l
def lastB (g : Vr → Bool) (x : Vr) : Bool → List Vr → Bool
  | i, [] => i
  | i, b :: l => if le b x = true then lastB g x (g b) l else i
theorem turns_sub (g : Vr → Bool) : ∀ (i : Bool) (l : List Vr), List.Sublist (turns g i l) l
  | _, [] => .slnil
  | i, b :: l => by
    show List.Sublist (if (g b != i) = true then b :: turns g (!i) l else turns g i l) (b :: l)
    by_cases q : (g b != i) = true
    · rw [if_pos q]
      exact (turns_sub g _ l).cons_cons b
    · rw [if_neg q]
      exact (turns_sub g _ l).cons b
theorem turns_par (g : Vr → Bool) (x : Vr) : ∀ (i : Bool) {l : List Vr}, l.Pairwise lt → par (turns g i l) x = Bool.xor i (lastB g x i l)
  | i, [], _ => by cases i <;> rfl
  | i, b :: l, h => by
    obtain ⟨h1, h2⟩ := List.pairwise_cons.mp h
    show par (if (g b != i) = true then b :: turns g (!i) l else turns g i l) x = Bool.xor i (if le b x = true then lastB g x (g b) l else i)
    by_cases q : (g b != i) = true
    · rw [if_pos q]
      show Bool.xor (le b x) (par (turns g (!i) l) x) = _
      have eg : g b = !i := by cases e : g b <;> cases i <;> rw [e] at q <;> first | rfl | cases q
      by_cases k : le b x = true
      · rw [if_pos k, k, turns_par g x (!i) h2, eg]
        cases i <;> cases lastB g x _ l <;> rfl
      · rw [if_neg k, (Bool.not_eq_true _).mp k, par_above fun d hd => by
          have hd' := (turns_sub g _ l).subset hd
          exact le_f.mpr (lx_trans (le_f.mp ((Bool.not_eq_true _).mp k)) (h1 d hd'))]
        cases i <;> rfl
    · rw [if_neg q]
      have eg : g b = i := by cases e : g b <;> cases i <;> rw [e] at q <;> first | rfl | exact absurd rfl q
      by_cases k : le b x = true
      · rw [if_pos k, eg]
        exact turns_par g x i h2
      · rw [if_neg k, par_above fun d hd => by
          have hd' := (turns_sub g _ l).subset hd
          exact le_f.mpr (lx_trans (le_f.mp ((Bool.not_eq_true _).mp k)) (h1 d hd'))]
        cases i <;> rfl
theorem lastB_eq (g : Vr → Bool) (x : Vr) (C : List Vr) (Q : ∀ b, le b x = true → (∀ c ∈ C, le c x = true → le c b = true) → g b = g x) :
    ∀ (i : Bool) {l : List Vr}, l.Pairwise lt → (∀ c ∈ C, le c x = true → c ∈ l ∨ ∀ b ∈ l, le c b = true) → (i = g x ∨ ∃ b ∈ l, le b x = true) → lastB g x i l = g x
  | i, [], _, _, h => by
    rcases h with h | ⟨b, hb, _⟩
    · exact h
    · cases hb
  | i, b :: l, hl, hC, h => by
    obtain ⟨h1, h2⟩ := List.pairwise_cons.mp hl
    show (if le b x = true then lastB g x (g b) l else i) = g x
    by_cases k : le b x = true
    · rw [if_pos k]
      refine lastB_eq g x C Q (g b) h2 (fun c hc hx => ?_) ?_
      · rcases hC c hc hx with z | z
        · rcases List.mem_cons.mp z with q | q
          · exact .inr fun d hd => by rw [q]; exact le_of_lt (h1 d hd)
          · exact .inl q
        · exact .inr fun d hd => z d (List.mem_cons.mpr (.inr hd))
      · by_cases e : ∃ d ∈ l, le d x = true
        · exact .inr e
        · refine .inl (Q b k fun c hc hx => ?_)
          rcases hC c hc hx with z | z
          · rcases List.mem_cons.mp z with q | q
            · rw [q]; exact le_rfl b
            · exact absurd ⟨c, q, hx⟩ e
          · exact z b (List.mem_cons.mpr (.inl rfl))
    · rw [if_neg k]
      rcases h with h | ⟨d, hd, hx⟩
      · exact h
      · rcases List.mem_cons.mp hd with q | q
        · rw [q] at hx
          exact absurd hx k
        · exact absurd (le_back (h1 d q) hx) k
/-- what both ways of putting two ranges together make -/
theorem op_ok {B : Int} {r s : Rg} (w : Bool → Bool → Bool) (w0 : w false false = false) (hr : RgOK B r) (hs : RgOK B s) {l : List Vr} (hl : l.Pairwise lt) (hv : ∀ b ∈ l, Ver B b) (hm : ∀ c ∈ flat r ++ flat s, c ∈ l) :
    RgOK B (prs (turns (fun b => w (inB r b) (inB s b)) false l)) ∧ ∀ x, inB (prs (turns (fun b => w (inB r b) (inB s b)) false l)) x = w (inB r x) (inB s x) := by
  have sub := turns_sub (fun b => w (inB r b) (inB s b)) false l
  have asc := hl.sublist sub
  refine ⟨prs_ok asc fun x hx => hv x (sub.subset hx), fun x => ?_⟩
  rw [prs_par asc, turns_par _ x false hl]
  have eg : ∀ {t : Rg}, RgOK B t → (∀ c ∈ flat t, c ∈ flat r ++ flat s) → ∀ b, le b x = true → (∀ c ∈ flat r ++ flat s, le c x = true → le c b = true) → inB t b = inB t x := fun {t} ht hc b kb q => by
    rw [ht.par b, ht.par x]
    refine par_congr fun c hc' => ?_
    have hcx := q c (hc c hc')
    cases e : le c x with
    | true => exact hcx e
    | false =>
      have h1 := le_f.mp e
      cases e2 : le c b with
      | false => rfl
      | true =>
        exact absurd (le_trans e2 kb) (by rw [e]; decide)
  rw [lastB_eq (fun b => w (inB r b) (inB s b)) x (flat r ++ flat s) ?_ false hl (fun c hc _ => .inl (hm c hc)) ?_]
  · cases w (inB r x) (inB s x) <;> rfl
  · intro b kb q
    show w (inB r b) (inB s b) = w (inB r x) (inB s x)
    rw [eg hr (fun c hc => List.mem_append.mpr (.inl hc)) b kb q, eg hs (fun c hc => List.mem_append.mpr (.inr hc)) b kb q]
  · by_cases e : ∃ b ∈ l, le b x = true
    · exact .inr e
    · left
      have z : ∀ {t : Rg}, RgOK B t → (∀ c ∈ flat t, c ∈ flat r ++ flat s) → inB t x = false := fun {t} ht hc => by
        rw [ht.par x]
        exact par_above fun c hc' => (Bool.not_eq_true _).mp fun k => e ⟨c, hm c (hc c hc'), k⟩
      show false = w (inB r x) (inB s x)
      rw [z hr (fun c hc => List.mem_append.mpr (.inl hc)), z hs (fun c hc => List.mem_append.mpr (.inr hc)), w0]
end Zj

namespace Zj
open PySem PySem.Spec PyProof.Rows
/-! ### tuple(zip(x, y)), x and y lists -/
theorem zip_nolen : typeLookup (.type "zip") "__len__" = pure none := am_miss_of_fast (by decide +kernel)
theorem zip_nohint : typeLookup (.type "zip") "__length_hint__" = pure none := am_miss_of_fast (by decide +kernel)
theorem ne_lo {a T : Addr} {b0 : Nat} (h : (a : Nat) < b0) (k : b0 ≤ (T : Nat)) : T ≠ a := fun q => by
  subst q
  exact absurd h (Nat.not_lt.mpr k)
/-- how the zip at z stands before its turn i; b0: all that it needs lies below -/
structure ZSt (h : Heap) (z TI TO i1 i2 l1 l2 : Addr) (xs ys : Array Value) (i : Nat) : Prop where
  zip : (IsZip h z TI TO .none ∧ ∃ a b, IsPair h TO a b) ∨ ∃ T f oT, IsZipHeld h z TI TO T f ∧ h.get? T = some oT ∧ T ≠ z ∧ T ≠ i1 ∧ T ≠ i2
  ti : IsPair h TI (.ref i1) (.ref i2)
  h1 : h.IsListIter i1 l1 i
  h2 : h.IsListIter i2 l2 i
  x1 : h.IsList l1 xs
  x2 : h.IsList l2 ys
section
variable {prog : Program} {w : World} {A : Around} {E : Value → Shared → Prop} {s : Shared} {z TI TO i1 i2 l1 l2 : Addr} {xs ys : Array Value} {i : Nat}
theorem ZSt.zlt {h : Heap} (a : ZSt h z TI TO i1 i2 l1 l2 xs ys i) : z < h.objs.size := by
  rcases a.zip with ⟨e, _⟩ | ⟨_, _, _, e, _⟩
  · exact Heap.lt_size e
  · exact Heap.lt_size e
theorem ZSt.ilt {h : Heap} (a : ZSt h z TI TO i1 i2 l1 l2 xs ys i) : i1 < h.objs.size ∧ i2 < h.objs.size := by
  obtain ⟨_, e1, _⟩ := a.h1
  obtain ⟨_, e2, _⟩ := a.h2
  exact ⟨Heap.lt_size e1, Heap.lt_size e2⟩
theorem znext {x y : Value} {Q : Option Value → Shared → Prop} (D : ZipApart z TI TO i1 i2 l1 l2) (st : ZSt s.heap z TI TO i1 i2 l1 l2 xs ys i) (hx : xs[i]? = some x) (hy : ys[i]? = some y)
    (hQ : ∀ h', ZSt h' z TI TO i1 i2 l1 l2 xs ys (i + 1) → IsPair h' s.heap.objs.size x y → h'.objs.size = s.heap.objs.size + 1 → (∀ c o, c ≠ z → c ≠ TO → c ≠ i1 → c ≠ i2 → s.heap.get? c = some o → h'.get? c = some o) → Q (some (.ref s.heap.objs.size)) { s with heap := h' }) :
    wpAny (model prog w) A (pyNext (.ref z)) Q E s := by
  have nz := Nat.ne_of_gt st.zlt
  have n1 := Nat.ne_of_gt st.ilt.1
  have n2 := Nat.ne_of_gt st.ilt.2
  rcases st.zip with ⟨e, a, b, e2⟩ | ⟨T, f, oT, e, e2, t1, t2, t3⟩
  · exact wpAny_pyNext_zip_item D e st.ti e2 st.h1 st.h2 st.x1 st.x2 hx hy fun h' a1 a2 a3 a4 a5 a6 a7 =>
      hQ h' ⟨.inr ⟨_, false, _, a1, a5, nz, n1, n2⟩, a7 _ _ D.TIz D.TITO D.TIi1 D.TIi2 st.ti, a3, a4, st.x1.at fun o q => a7 _ o D.l1z D.l1TO D.l1i1 D.l1i2 q, st.x2.at fun o q => a7 _ o D.l2z D.l2TO D.l2i1 D.l2i2 q⟩ a5 a6 a7
  · exact wpAny_pyNext_zip_item_held D e e2 st.ti st.h1 st.h2 st.x1 st.x2 hx hy fun h' a1 a3 a4 a5 a6 a7 =>
      hQ h' ⟨.inr ⟨T, true, oT, a1, a7 _ _ t1 t2 t3 e2, t1, t2, t3⟩, a7 _ _ D.TIz D.TIi1 D.TIi2 st.ti, a3, a4, st.x1.at fun o q => a7 _ o D.l1z D.l1i1 D.l1i2 q, st.x2.at fun o q => a7 _ o D.l2z D.l2i1 D.l2i2 q⟩ a5 a6 fun c o c1 _ c3 c4 q => a7 c o c1 c3 c4 q
theorem zstop {Q : Option Value → Shared → Prop} (hh : A.handled = none) (D : ZipApart z TI TO i1 i2 l1 l2) (st : ZSt s.heap z TI TO i1 i2 l1 l2 xs ys i) (hend : xs[i]? = none ∨ ys[i]? = none)
    (hQ : ∀ h', (∀ c o, c ≠ z → c ≠ TO → c ≠ i1 → c ≠ i2 → s.heap.get? c = some o → h'.get? c = some o) → Q none { s with heap := h' }) : wpAny (model prog w) A (pyNext (.ref z)) Q E s := by
  rcases st.zip with ⟨e, a, b, e2⟩ | ⟨T, f, oT, e, e2, t1, t2, t3⟩
  · exact wpAny_pyNext_zip_end hh D e st.ti e2 st.h1 st.h2 st.x1 st.x2 hend hQ
  · exact wpAny_pyNext_zip_end_held hh D e e2 st.ti st.h1 st.h2 st.x1 st.x2 hend fun h' a7 => hQ h' fun c o c1 _ c3 c4 q => a7 c o c1 c3 c4 q
/-- the pairs that are made: b0 and above, one behind another -/
structure Made (h : Heap) (b0 : Nat) (xs ys : Array Value) (Ts : List Addr) : Prop where
  lt : ∀ T ∈ Ts, b0 ≤ (T : Nat)
  nd : Ts.Nodup
  at_ : ∀ (j : Nat) (T : Addr), Ts[j]? = some T → ∃ x y, xs[j]? = some x ∧ ys[j]? = some y ∧ IsPair h T x y
theorem Made.keep {h h' : Heap} {b0 : Nat} {Ts : List Addr} (m : Made h b0 xs ys Ts) (k : ∀ T ∈ Ts, ∀ o, h.get? T = some o → h'.get? T = some o) : Made h' b0 xs ys Ts :=
  ⟨m.lt, m.nd, fun j T e => by
    obtain ⟨x, y, h1, h2, h3⟩ := m.at_ j T e
    exact ⟨x, y, h1, h2, k T (List.mem_of_getElem? e) _ h3⟩⟩
theorem Made.hi {h : Heap} {b0 : Nat} {Ts : List Addr} (m : Made h b0 xs ys Ts) : h.objs.size ∉ Ts := fun q => by
  obtain ⟨j, hj⟩ := List.getElem?_of_mem q
  obtain ⟨x, y, _, _, h3⟩ := m.at_ j _ hj
  exact absurd (Heap.lt_size h3) (Nat.lt_irrefl _)
theorem Made.snoc {h : Heap} {b0 : Nat} {Ts : List Addr} {T : Addr} {x y : Value} (m : Made h b0 xs ys Ts) (hT : b0 ≤ (T : Nat)) (hn : T ∉ Ts) (hx : xs[Ts.length]? = some x) (hy : ys[Ts.length]? = some y) (hp : IsPair h T x y) : Made h b0 xs ys (Ts ++ [T]) := by
  refine ⟨fun U hU => ?_, ?_, fun j U e => ?_⟩
  · rcases List.mem_append.mp hU with q | q
    · exact m.lt U q
    · rw [List.mem_singleton.mp q]; exact hT
  · refine List.nodup_append.mpr ⟨m.nd, by simp, fun a ha b hb e => ?_⟩
    rw [List.mem_singleton.mp hb] at e
    rw [e] at ha
    exact hn ha
  · rw [List.getElem?_append] at e
    split at e
    · exact m.at_ j U e
    · rename_i q
      have e1 : j - Ts.length = 0 := by
        by_cases q2 : j - Ts.length = 0
        · exact q2
        · rw [List.getElem?_eq_none (by simp; omega)] at e
          cases e
      have e2 : j = Ts.length := by omega
      rw [e1] at e
      cases e
      rw [e2]
      exact ⟨x, y, hx, hy, hp⟩
variable {S : Addr} {n b0 : Nat} {res : Value} {R : Result → Shared → Prop}
theorem zip_loop (hh : A.handled = none) (D : ZipApart z TI TO i1 i2 l1 l2) (hxs : xs.size = n) (hys : ys.size = n) (hn : n ≤ sizeLine) (nS : S ≠ z ∧ S ≠ TI ∧ S ≠ TO ∧ S ≠ i1 ∧ S ≠ i2 ∧ S ≠ l1 ∧ S ≠ l2) (lo : z < b0 ∧ TO < b0 ∧ i1 < b0 ∧ i2 < b0 ∧ S < b0) :
    ∀ (k i : Nat) (s : Shared) (Ts : List Addr) (c : Nat), i + k = n → Ts.length = i → ZSt s.heap z TI TO i1 i2 l1 l2 xs ys i → Made s.heap b0 xs ys Ts → b0 ≤ s.heap.objs.size → s.heap.get? S = some { cls := .type "list", data := .seq (Ts.map Value.ref).toArray c } →
    (∀ h' tk Ts' c', Ts'.length = n → Made h' b0 xs ys Ts' → h'.get? S = some { cls := .type "list", data := .seq (Ts'.map Value.ref).toArray c' } → (∀ b o, b ≠ z → b ≠ TO → b ≠ i1 → b ≠ i2 → b ≠ S → s.heap.get? b = some o → h'.get? b = some o) → R (.ok (.ret res)) { s with heap := h', toks := tk }) →
    codeAny (model prog w) A (.builtin "list.extend.loop" ⟨[.ref S, .ref z, res], []⟩) R s := by
  intro k
  induction k with
  | zero =>
    intro i s Ts c hk hl st mk hb hS hR
    refine codeAny_builtin F.entry_extend_loop ?_
    rw [Around.under_plainId F.plain_extend_loop _]
    show wpAny _ A.in1 (pyNext (.ref z) >>= _) _ _ s
    refine wpAny_bind (zstop hh D st (.inl (by rw [Array.getElem?_eq_none (by omega)])) fun h' kp => ?_)
    have kT : ∀ T ∈ Ts, ∀ o, s.heap.get? T = some o → h'.get? T = some o := fun T hT o e => kp T o (ne_lo lo.1 (mk.lt T hT)) (ne_lo lo.2.1 (mk.lt T hT)) (ne_lo lo.2.2.1 (mk.lt T hT)) (ne_lo lo.2.2.2.1 (mk.lt T hT)) e
    exact wpAny_pure (hR h' s.toks Ts c (by omega) (mk.keep kT) (kp S _ nS.1 nS.2.2.1 nS.2.2.2.1 nS.2.2.2.2.1 hS) fun b o q1 q2 q3 q4 _ q => kp b o q1 q2 q3 q4 q)
  | succ k ih =>
    intro i s Ts c hk hl st mk hb hS hR
    obtain ⟨x, hx⟩ : ∃ x, xs[i]? = some x := ⟨_, Array.getElem?_eq_getElem (by omega)⟩
    obtain ⟨y, hy⟩ : ∃ y, ys[i]? = some y := ⟨_, Array.getElem?_eq_getElem (by omega)⟩
    refine codeAny_builtin F.entry_extend_loop ?_
    rw [Around.under_plainId F.plain_extend_loop _]
    show wpAny _ A.in1 (pyNext (.ref z) >>= _) _ _ s
    refine wpAny_bind (znext D st hx hy fun h' st' hp hs' kp => ?_)
    have kT : ∀ T ∈ Ts, ∀ o, s.heap.get? T = some o → h'.get? T = some o := fun T hT o e => kp T o (ne_lo lo.1 (mk.lt T hT)) (ne_lo lo.2.1 (mk.lt T hT)) (ne_lo lo.2.2.1 (mk.lt T hT)) (ne_lo lo.2.2.2.1 (mk.lt T hT)) e
    have hS' := kp S _ nS.1 nS.2.2.1 nS.2.2.2.1 nS.2.2.2.2.1 hS
    have nT := mk.hi
    have mk' : Made h' b0 xs ys (Ts ++ [s.heap.objs.size]) := (mk.keep kT).snoc hb nT (by rw [hl]; exact hx) (by rw [hl]; exact hy) hp
    show wpAny _ A.in1 (updateSeq S (·.push (Value.ref s.heap.objs.size)) >>= _) _ _ _
    refine wpAny_bind ?_
    have ne : ∀ b : Addr, b ≠ S → ∀ o, h'.get? b = some o → (h'.update S (Obj.mapSeq (·.push (Value.ref s.heap.objs.size)))).get? b = some o := fun b q o e => (Heap.get?_update_other _ _ q.symm).trans e
    have hS2 := Heap.get?_update_self (Obj.mapSeq (·.push (Value.ref s.heap.objs.size))) hS' rfl
    have eA : ((Ts.map Value.ref).toArray).push (Value.ref s.heap.objs.size) = ((Ts ++ [s.heap.objs.size]).map Value.ref).toArray := by simp
    have hS3 : ∃ c2, (h'.update S (Obj.mapSeq (·.push (Value.ref s.heap.objs.size)))).get? S = some { cls := .type "list", data := .seq ((Ts ++ [s.heap.objs.size]).map Value.ref).toArray c2 } := ⟨_, by rw [hS2, ← eA]; rfl⟩
    obtain ⟨c2, hS3⟩ := hS3
    refine wpAny_updateSeq hS' rfl (wpAny_pure ⟨plainId_quiet F.plain_extend_loop _, ih (i + 1) { s with heap := h'.update S (Obj.mapSeq (·.push (Value.ref s.heap.objs.size))) } (Ts ++ [s.heap.objs.size]) c2 (by omega) (by simp [hl]) ?_ (mk'.keep fun T hT => ne T ?_) ?_ hS3 fun h2 tk Ts' c' e1 e2 e3 e4 => ?_⟩) ?_ ?_
    · exact ⟨by
        rcases st'.zip with ⟨e, a, b, e2⟩ | ⟨T, f, oT, e, e2, t1, t2, t3⟩
        · exact .inl ⟨ne _ nS.1.symm _ e, a, b, ne _ nS.2.2.1.symm _ e2⟩
        · by_cases q : T = S
          · subst q
            exact .inr ⟨T, f, _, ne _ nS.1.symm _ e, hS3, t1, t2, t3⟩
          · exact .inr ⟨T, f, oT, ne _ nS.1.symm _ e, ne _ q _ e2, t1, t2, t3⟩,
        ne _ nS.2.1.symm _ st'.ti, st'.h1.at (ne _ nS.2.2.2.1.symm), st'.h2.at (ne _ nS.2.2.2.2.1.symm), st'.x1.at (ne _ nS.2.2.2.2.2.1.symm), st'.x2.at (ne _ nS.2.2.2.2.2.2.symm)⟩
    · exact ne_lo lo.2.2.2.2 (mk'.lt T hT)
    · show b0 ≤ (h'.update S _).objs.size
      have sz : (h'.update S (Obj.mapSeq (·.push (Value.ref s.heap.objs.size)))).objs.size = h'.objs.size := by simp [Heap.update]
      rw [sz, hs']
      omega
    · exact hR h2 tk Ts' c' e1 e2 e3 fun b o q1 q2 q3 q4 q5 q => e4 b o q1 q2 q3 q4 q5 (ne b q5 o (kp b o q1 q2 q3 q4 q))
    · simp only [List.size_toArray, List.length_map]
      omega
    · simp only [Array.size_push, List.size_toArray, List.length_map]
      omega
theorem zip_collect {Q : List Value → Shared → Prop} (hh : A.handled = none) (D : ZipApart z TI TO i1 i2 l1 l2) (hxs : xs.size = n) (hys : ys.size = n) (hn : n ≤ sizeLine) (hz : IsZip s.heap z TI TO .none) (st : ZSt s.heap z TI TO i1 i2 l1 l2 xs ys 0) (lo : (z : Nat) < s.heap.objs.size ∧ (TI : Nat) < s.heap.objs.size ∧ (TO : Nat) < s.heap.objs.size ∧ (i1 : Nat) < s.heap.objs.size ∧ (i2 : Nat) < s.heap.objs.size ∧ (l1 : Nat) < s.heap.objs.size ∧ (l2 : Nat) < s.heap.objs.size)
    (hQ : ∀ h' tk Ts, Ts.length = n → Made h' s.heap.objs.size xs ys Ts → (∀ b o, b ≠ z → b ≠ TO → b ≠ i1 → b ≠ i2 → s.heap.get? b = some o → h'.get? b = some o) → Q (Ts.map Value.ref) { s with heap := h', toks := tk }) : wpAny (model prog w) A (collect (.ref z)) Q E s := by
  have nS : ∀ a : Addr, (a : Nat) < s.heap.objs.size → (s.heap.objs.size : Addr) ≠ a := fun a q => ne_lo q (Nat.le_refl _)
  unfold collect
  refine wpAny_bind (wpAny_runValue (codeAny_builtin F.entry_proto_collect ?_))
  rw [Around.under_plainId F.plain_proto_collect _]
  show wpAny _ A.in1 (newList [] >>= fun a => again (.builtin "list.__iadd__" ⟨[a, .ref z], []⟩)) _ _ s
  refine wpAny_bind (wpAny_newObj_type (wpAny_pure ⟨plainId_quiet F.plain_list_iadd _, codeAny_builtin F.entry_list_iadd ?_⟩))
  rw [Around.under_plainId F.plain_list_iadd _]
  have g0 : (s.heap.push { cls := .type "list", data := .seq ([] : List Value).toArray }).get? s.heap.objs.size = some { cls := .type "list", data := .seq ([] : List Value).toArray } := Heap.get?_push_size _ rfl
  have kp : ∀ b o, s.heap.get? b = some o → (s.heap.push { cls := .type "list", data := .seq ([] : List Value).toArray }).get? b = some o := fun b o e => Heap.get?_push_of_some _ e
  have gz := kp _ _ hz
  have ty : ({ s with heap := s.heap.push { cls := .type "list", data := .seq ([] : List Value).toArray } } : Shared).TypeIs (.ref z) "zip" := ⟨_, gz, rfl⟩
  show wpAny _ A.in1 (Builtin.List.listExtendWith (.ref s.heap.objs.size) (.ref z) (.ref s.heap.objs.size)) _ _ _
  unfold Builtin.List.listExtendWith
  refine wpAny_bind (wpAny_typeOf ty ?_)
  have b1 : Builtin.List.listSameRef (.ref s.heap.objs.size) (.ref z) = false := by simp [Builtin.List.listSameRef, nS z lo.1]
  rw [if_neg (by rw [b1]; decide)]
  refine wpAny_bind (wpAny_pyIter_zip (s := { s with heap := s.heap.push { cls := .type "list", data := .seq ([] : List Value).toArray } }) gz ?_)
  refine wpAny_bind (wpAny_holding ?_)
  unfold Builtin.List.listLengthHint
  refine wpAny_bind (wpAny_specialOf ty zip_nolen ?_)
  show wpAny _ A.in1 (specialOf (Value.ref z) (Str.ofString "__length_hint__") >>= _) _ _ _
  refine wpAny_bind (wpAny_specialOf ty zip_nohint (wpAny_pure ?_))
  show wpAny _ A.in1 (rule "list.extend.makes-room" >>= fun _ => Builtin.List.listTouch (.ref s.heap.objs.size) >>= fun _ => again (.builtin "list.extend.loop" ⟨[.ref s.heap.objs.size, .ref z, .ref s.heap.objs.size], []⟩)) _ _ _
  refine wpAny_bind (wpAny_rule (wpAny_bind ?_))
  show wpAny _ A.in1 (updateSeq s.heap.objs.size (·.push .none) >>= fun _ => updateSeq s.heap.objs.size (·.pop)) _ _ _
  refine wpAny_bind (wpAny_updateSeq g0 rfl ?_)
  have g1 := Heap.get?_update_self (Obj.mapSeq (·.push Value.none)) g0 rfl
  refine wpAny_updateSeq g1 rfl ?_
  have g2 := Heap.get?_update_self (Obj.mapSeq (·.pop)) g1 rfl
  have ne : ∀ b o, (s.heap.objs.size : Addr) ≠ b → s.heap.get? b = some o → (((s.heap.push { cls := .type "list", data := .seq ([] : List Value).toArray }).update s.heap.objs.size (Obj.mapSeq (·.push Value.none))).update s.heap.objs.size (Obj.mapSeq (·.pop))).get? b = some o :=
    fun b o q e => (Heap.get?_update_other _ _ q).trans ((Heap.get?_update_other _ _ q).trans (kp b o e))
  have sz : (((s.heap.push { cls := .type "list", data := .seq ([] : List Value).toArray }).update s.heap.objs.size (Obj.mapSeq (·.push Value.none))).update s.heap.objs.size (Obj.mapSeq (·.pop))).objs.size = s.heap.objs.size + 1 := by simp [Heap.update, Heap.size_push]
  have lt1 : ∀ a : Addr, (a : Nat) < s.heap.objs.size → (a : Nat) < s.heap.objs.size + 1 := fun a q => Nat.lt_succ_of_lt q
  obtain ⟨o1, o2, o3, o4, o5, o6, o7⟩ := lo
  refine wpAny_pure ⟨plainId_quiet F.plain_extend_loop _, zip_loop (b0 := s.heap.objs.size + 1) hh D hxs hys hn ⟨nS z o1, nS TI o2, nS TO o3, nS i1 o4, nS i2 o5, nS l1 o6, nS l2 o7⟩ ⟨lt1 z o1, lt1 TO o3, lt1 i1 o4, lt1 i2 o5, Nat.lt_succ_self _⟩ n 0 _ [] _ (by omega) rfl ?_ ⟨(fun _ q => nomatch q), List.nodup_nil, fun j T q => by simp at q⟩ (Nat.le_of_eq sz.symm) g2 fun h' tk Ts c' e1 e2 e3 e4 => ?_⟩
  · have zz := ne _ _ (nS z o1) hz
    refine ⟨.inl ⟨zz, ?_⟩, ne _ _ (nS TI o2) st.ti, st.h1.at fun o => ne _ o (nS i1 o4), st.h2.at fun o => ne _ o (nS i2 o5), st.x1.at fun o => ne _ o (nS l1 o6), st.x2.at fun o => ne _ o (nS l2 o7)⟩
    rcases st.zip with ⟨_, a, b, e2⟩ | ⟨T, f, oT, e, _⟩
    · exact ⟨a, b, ne _ _ (nS TO o3) e2⟩
    · exfalso
      have q := congrArg Obj.data (Option.some.inj ((show s.heap.get? z = some _ from e).symm.trans hz))
      simp [rawInt] at q
  · show wpAny _ A (load s.heap.objs.size >>= _) _ _ _
    refine wpAny_bind (wpAny_load e3 (wpAny_pure ?_))
    have m : Made h' s.heap.objs.size xs ys Ts := ⟨fun T hT => Nat.le_of_succ_le (e2.lt T hT), e2.nd, e2.at_⟩
    exact hQ h' tk Ts e1 m fun b o q1 q2 q3 q4 q => e4 b o q1 q2 q3 q4 (fun y => absurd (Heap.lt_size q) (by rw [y]; exact Nat.lt_irrefl _)) (ne b o (fun y => absurd (Heap.lt_size q) (by rw [← y]; exact Nat.lt_irrefl _)) q)
theorem zip_tupnew {Q : Value → Shared → Prop} (hh : A.handled = none) (D : ZipApart z TI TO i1 i2 l1 l2) (hxs : xs.size = n) (hys : ys.size = n) (hn : n ≤ sizeLine) (hz : IsZip s.heap z TI TO .none) (st : ZSt s.heap z TI TO i1 i2 l1 l2 xs ys 0) (lo : (z : Nat) < s.heap.objs.size ∧ (TI : Nat) < s.heap.objs.size ∧ (TO : Nat) < s.heap.objs.size ∧ (i1 : Nat) < s.heap.objs.size ∧ (i2 : Nat) < s.heap.objs.size ∧ (l1 : Nat) < s.heap.objs.size ∧ (l2 : Nat) < s.heap.objs.size)
    (hQ : ∀ h' tk Ts, Ts.length = n → Made h' s.heap.objs.size xs ys Ts → (∀ b o, b ≠ z → b ≠ TO → b ≠ i1 → b ≠ i2 → s.heap.get? b = some o → h'.get? b = some o) → Q (.ref h'.objs.size) { s with heap := h'.push { cls := .type "tuple", data := .seq (Ts.map Value.ref).toArray }, toks := tk }) :
    codeAny (model prog w) A (.call (.builtin "tuple.__new__") ⟨[.type "tuple", .ref z], []⟩) (wants Q E) s := by
  refine codeAny_of_tree ?_
  show wpAny _ A.in1 (do checkBuiltinCall "tuple.__new__" ⟨[.type "tuple", .ref z], []⟩; again (.builtin "tuple.__new__" ⟨[.type "tuple", .ref z], []⟩)) _ _ s
  refine wpAny_bind (wpAny_of_eq (F.newCall_tuple_1 _) (wpAny_pure ⟨plainId_quiet F.plain_tuple_new _, codeAny_builtin F.entry_tuple_new ?_⟩))
  rw [Around.under_plainId F.plain_tuple_new _]
  have hTI : s.TypeIs (.ref z) "zip" := ⟨_, hz, rfl⟩
  have q1 := sub_tuple_self
  have q2 := init_tuple_lookup
  have q3 := madeHere_tuple
  have q4 : A.in1.handled = none := hh
  wp_walk using wpAny_typeOf hTI, zip_collect (A := A.in1) q4 D hxs hys hn hz st lo
  intro h' tk Ts e1 e2 e3
  show wpAny _ _ (Builtin.Tuple.tupleExact (Ts.map Value.ref).toArray >>= fun u => ret u) _ _ _
  unfold Builtin.Tuple.tupleExact
  exact wpAny_bind (wpAny_newObj_type (wpAny_pure (hQ h' tk Ts e1 e2 e3)) (by show (Ts.map Value.ref).toArray.size ≤ sizeLine; rw [List.size_toArray, List.length_map, e1]; exact hn))
theorem zip_calltup {Q : Value → Shared → Prop} (hh : A.handled = none) (D : ZipApart z TI TO i1 i2 l1 l2) (hxs : xs.size = n) (hys : ys.size = n) (hn : n ≤ sizeLine) (hz : IsZip s.heap z TI TO .none) (st : ZSt s.heap z TI TO i1 i2 l1 l2 xs ys 0) (lo : (z : Nat) < s.heap.objs.size ∧ (TI : Nat) < s.heap.objs.size ∧ (TO : Nat) < s.heap.objs.size ∧ (i1 : Nat) < s.heap.objs.size ∧ (i2 : Nat) < s.heap.objs.size ∧ (l1 : Nat) < s.heap.objs.size ∧ (l2 : Nat) < s.heap.objs.size)
    (hQ : ∀ h' tk Ts, Ts.length = n → Made h' s.heap.objs.size xs ys Ts → (∀ b o, b ≠ z → b ≠ TO → b ≠ i1 → b ≠ i2 → s.heap.get? b = some o → h'.get? b = some o) → Q (.ref h'.objs.size) { s with heap := h'.push { cls := .type "tuple", data := .seq (Ts.map Value.ref).toArray }, toks := tk }) :
    wpAny (model prog w) A (call (.type "tuple") [.ref z]) Q E s := by
  refine callType_codes (Q₁ := fun u s1 => s1.TypeIs u "tuple" ∧ Q u s1) F.called_tuple (F.typeCall_tuple_1 _) F.entry_object_init (zip_tupnew (A := A.in1) hh D hxs hys hn hz st lo fun h' tk Ts e1 e2 e3 => ⟨⟨_, Heap.get?_push_size _ rfl, rfl⟩, hQ h' tk Ts e1 e2 e3⟩) fun u s1 q => ?_
  exact ⟨q.1, F.args_object_init_2 u _, object_init_meets F.called_tuple.init.lookup F.called_tuple.made (by decide) prog w A.in1 _ s1 ⟨q.1, rfl, q.2⟩⟩
end
end Zj
namespace Zj
open PySem PySem.Spec PyProof.Rows L2 RT
/-! ### several tuples laid at once -/
def addT (H : Hp) : List (Addr × List V) → Hp
  | [] => H
  | p :: L => upd (addT H L) p.1 (.tup p.2)
theorem addT_out {H : Hp} {b : Addr} : ∀ {L : List (Addr × List V)}, b ∉ L.map (·.1) → addT H L b = H b
  | [], _ => rfl
  | p :: L, h => by
    have h' : b ≠ p.1 ∧ b ∉ L.map (·.1) := by simpa using h
    show upd (addT H L) p.1 (.tup p.2) b = H b
    rw [upd_ne h'.1, addT_out h'.2]
theorem addT_in {H : Hp} {p : Addr × List V} : ∀ {L : List (Addr × List V)}, (L.map (·.1)).Nodup → p ∈ L → addT H L p.1 = some (.tup p.2)
  | q :: L, nd, h => by
    have nd' := List.nodup_cons.mp (show (q.1 :: L.map (·.1)).Nodup from nd)
    show upd (addT H L) q.1 (.tup q.2) p.1 = _
    rcases List.mem_cons.mp h with e | e
    · rw [e, upd_same]
    · rw [upd_ne fun y => nd'.1 (by rw [← y]; exact List.mem_map.mpr ⟨p, e, rfl⟩), addT_in nd'.2 e]
theorem addT_ok {P : Program} {w : World} {H : Hp} {h h' : Heap} (x : HOk P w H h) (k : ∀ b u, h.get? b = some u → h'.get? b = some u) : ∀ {L : List (Addr × List V)}, (L.map (·.1)).Nodup → (∀ p ∈ L, H p.1 = none ∧ p.2.length ≤ sizeLine ∧ ∃ its : List Value, Vals p.2 its ∧ IsTup h' p.1 its.toArray) → HOk P w (addT H L) h'
  | [], _, _ => x.kept k
  | p :: L, nd, hL => by
    have nd' := List.nodup_cons.mp (show (p.1 :: L.map (·.1)).Nodup from nd)
    have ih := addT_ok x k nd'.2 fun q hq => hL q (List.mem_cons.mpr (.inr hq))
    obtain ⟨h1, h2, h3⟩ := hL p (List.mem_cons.mpr (.inl rfl))
    exact HOk.laidN ih (fun _ _ e => e) ((addT_out nd'.1).trans h1) (show ObjOk P w _ _ _ (.tup p.2) from ⟨h2, h3⟩)
theorem inv_addT {X : Cx} {pins : List (Addr × Obj)} {σ : L2.St} {H : Hp} {s : Shared} {h' : Heap} {t' : Nat} {L : List (Addr × List V)} (I : Inv X pins σ H s) (k : ∀ b u, s.heap.get? b = some u → h'.get? b = some u) (nd : (L.map (·.1)).Nodup) (lo : ∀ p ∈ L, s.heap.objs.size ≤ (p.1 : Nat))
    (hL : ∀ p ∈ L, p.2.length ≤ sizeLine ∧ ∃ its : List Value, Vals p.2 its ∧ IsTup h' p.1 its.toArray) : Inv X pins σ (addT H L) { s with heap := h', toks := t' } := by
  have fr : ∀ p ∈ L, H p.1 = none := fun p hp => I.hok.fresh (lo p hp)
  have out : ∀ b u, H b = some u → addT H L b = some u := fun b u e => by
    rw [addT_out, e]
    intro q
    obtain ⟨p, hp, y⟩ := List.mem_map.mp q
    have := fr p hp
    rw [y, e] at this
    cases this
  refine I.un ⟨fun b o e _ _ _ => k b o e, fun b o e _ _ _ => ⟨o.slots, k b o e⟩, fun b o e n _ => ?_, fun b o e _ => ⟨o, k b o e⟩, fun b xs e => out b _ e, fun b o u e => out b _ e, fun b ps e => ⟨#[], by rw [out b _ e]; simp⟩⟩ (addT_ok I.hok k nd fun p hp => ⟨fr p hp, hL p hp⟩)
  rw [addT_out, n]
  intro q
  obtain ⟨p, hp, y⟩ := List.mem_map.mp q
  have := lo p hp
  rw [y] at this
  exact absurd (Heap.lt_size e) (Nat.not_lt.mpr this)
/-- the pairs, with their addresses -/
def zipL : List Addr → List V → List V → List (Addr × List V)
  | T :: Ts, x :: xs, y :: ys => (T, [x, y]) :: zipL Ts xs ys
  | _, _, _ => []
theorem zipL_fst : ∀ {Ts : List Addr} {xs ys : List V}, Ts.length = xs.length → xs.length = ys.length → (zipL Ts xs ys).map (·.1) = Ts
  | [], _, _, _, _ => rfl
  | T :: Ts, [], _, h, _ => by simp at h
  | T :: Ts, x :: xs, [], _, h => by simp at h
  | T :: Ts, x :: xs, y :: ys, h, h2 => by
    show T :: (zipL Ts xs ys).map (·.1) = _
    rw [zipL_fst (by simpa using h) (by simpa using h2)]
theorem zipL_mem : ∀ {Ts : List Addr} {xs ys : List V} {p : Addr × List V}, p ∈ zipL Ts xs ys → ∃ (j : Nat) (x y : V), Ts[j]? = some p.1 ∧ xs[j]? = some x ∧ ys[j]? = some y ∧ p.2 = [x, y]
  | T :: Ts, x :: xs, y :: ys, p, h => by
    rcases List.mem_cons.mp h with e | e
    · exact ⟨0, x, y, by rw [e]; rfl, rfl, rfl, by rw [e]⟩
    · obtain ⟨j, a, b, h1, h2, h3, h4⟩ := zipL_mem e
      exact ⟨j + 1, a, b, h1, h2, h3, h4⟩
  | [], _, _, _, h => by simp [zipL] at h
  | _ :: _, [], _, _, h => by simp [zipL] at h
  | _ :: _, _ :: _, [], _, h => by simp [zipL] at h
/-- the reading: q the new tuple, Ts its pairs -/
def tTupZip (K : PySem.W.Frag) (ta : TA) : TE := fun σ H Q => ta σ H fun vs H1 => ∃ a b xs ys, vs = [.ref a, .ref b] ∧ SqL K H1 a xs ∧ SqL K H1 b ys ∧ xs.length = ys.length ∧
  ∀ H' q Ts, (∀ c o, H1 c = some o → H' c = some o) → H1 q = none → H' q = some (.tup (Ts.map V.ref)) → Ts.length = xs.length → (∀ p ∈ zipL Ts xs ys, H' p.1 = some (.tup p.2)) → Q (.ref q) H'
set_option maxHeartbeats 400000 in
theorem pe_tupZip {X : Cx} {e1 e2 : Expr} {ta : TA} {p p2 pos pos2 : Pos} (hc : X.calm = true) (hg : Gl X "tuple") (hm : X.mg "tuple" = none) (hg2 : Gl X "zip") (hm2 : X.mg "zip" = none) (ha : PA X [e1, e2] ta)
    (hs : starEach [e1, e2] X.env = (false, eval e1 X.env) :: starEach [e2] X.env := by rfl) (hpl : (backTo pos2 (starEach [e2] X.env)).any (·.1) = false := by rfl)
    (hs2 : starEach [.Call (.Name "zip" p2) [e1, e2] [] pos2] X.env = (false, eval (.Call (.Name "zip" p2) [e1, e2] [] pos2) X.env) :: starEach [] X.env := by rfl) :
    PE X (.Call (.Name "tuple" p) [.Call (.Name "zip" p2) [e1, e2] [] pos2] [] pos) (tTupZip X.K ta) := by
  refine ⟨fun pins s σ H Q I h => ?_⟩
  refine Call_ (ld_blt I hg hm boot_tuple (PyProof.Rows.callWith_type1 ?_ hs2 rfl))
  refine args_cons ?_ hs2
  refine Call_ (ld_blt I hg2 hm2 PyProof.Rows.boot_zip (PyProof.Rows.callWith_type1 ?_ hs hpl))
  refine thn (ha.run pos2 pins s σ H _ I h) fun us s1 ⟨vs, H1, I1, r1, q1⟩ => ?_
  obtain ⟨a, b, xs, ys, ex, hqx, hqy, hl, q⟩ := q1
  subst ex
  obtain ⟨u1, u2, rfl, ru1, ru2⟩ : ∃ u1 u2, us = [u1, u2] ∧ u1 = Value.ref a ∧ u2 = Value.ref b := by
    cases r1 with
    | cons r rr =>
      cases rr with
      | cons r' rr =>
        cases rr
        exact ⟨_, _, rfl, r, r'⟩
  subst ru1 ru2
  obtain ⟨its, rv, p1, hz1⟩ := I1.list hqx
  obtain ⟨its2, rv2, p2', hz2⟩ := I1.list hqy
  have la := p1.lt
  have lb := p2'.lt
  refine call_zip_2 p1.isList p2'.isList fun h' hz hTI hTO h1 h2 hsz hk => args_nil ?_
  have lt5 : ∀ i : Nat, i < 5 → s1.heap.objs.size + i < h'.objs.size := fun i hi => by rw [hsz]; omega
  have e1 := rv.length
  have e2 := rv2.length
  refine zip_calltup (s := { s1 with heap := h' }) (n := its.length) (I1.ok.hd hc) (PySem.W.ktu_apart s1.heap.objs.size a b la lb) (by simp) (by simp only [List.size_toArray]; omega) (by omega) hz
    ⟨.inl ⟨hz, _, _, hTO⟩, hTI, h1, h2, p1.isList.at fun o => hk _ o, p2'.isList.at fun o => hk _ o⟩ ⟨lt5 4 (by decide), lt5 2 (by decide), lt5 3 (by decide), lt5 0 (by decide), lt5 1 (by decide), Nat.lt_trans la (lt5 0 (by decide)), Nat.lt_trans lb (lt5 0 (by decide))⟩ fun h2' tk Ts lT mT kT => ?_
  have kk : ∀ c o, s1.heap.get? c = some o → (h2'.push { cls := .type "tuple", data := .seq (Ts.map Value.ref).toArray }).get? c = some o := fun c o e => by
    have hlt : (c : Nat) < s1.heap.objs.size := Heap.lt_size e
    exact Heap.get?_push_of_some _ (kT c o (Nat.ne_of_lt (Nat.lt_of_lt_of_le hlt (Nat.le_add_right _ _))) (Nat.ne_of_lt (Nat.lt_of_lt_of_le hlt (Nat.le_add_right _ _))) (Nat.ne_of_lt hlt) (Nat.ne_of_lt (Nat.lt_of_lt_of_le hlt (Nat.le_add_right _ _))) (hk c o e))
  have big : s1.heap.objs.size ≤ h2'.objs.size := by
    have D := PySem.W.ktu_apart s1.heap.objs.size a b la lb
    have g := kT _ _ D.TIz D.TITO D.TIi1 D.TIi2 hTI
    have := Heap.lt_size g
    exact Nat.le_of_lt (Nat.lt_of_le_of_lt (Nat.le_add_right _ 2) this)
  have lz : Ts.length = xs.length := lT.trans e1.symm
  have fst := zipL_fst (ys := ys) lz hl
  have nd : (((h2'.objs.size, Ts.map V.ref) :: zipL Ts xs ys : List (Addr × List V)).map (·.1)).Nodup := by
    show (h2'.objs.size :: (zipL Ts xs ys).map (·.1)).Nodup
    rw [fst]
    exact List.nodup_cons.mpr ⟨mT.hi, mT.nd⟩
  have vr : ∀ l : List Addr, Vals (l.map V.ref) (l.map Value.ref) := fun l => by
    induction l with
    | nil => exact .nil
    | cons x l ih => exact .cons rfl ih
  have J := inv_addT (t' := tk) (L := (h2'.objs.size, Ts.map V.ref) :: zipL Ts xs ys) I1 kk nd (fun p hp => ?_) (fun p hp => ?_)
  · refine ⟨.ref h2'.objs.size, _, J, rfl, q _ h2'.objs.size Ts (fun c o e => ?_) (I1.hok.fresh big) (addT_in nd (List.mem_cons.mpr (.inl rfl))) lz fun p hp => addT_in nd (List.mem_cons.mpr (.inr hp))⟩
    rw [addT_out, e]
    intro y
    obtain ⟨p, hp, ep⟩ := List.mem_map.mp y
    have hlo : H1 p.1 = none := by
      rcases List.mem_cons.mp hp with z | z
      · rw [z]; exact I1.hok.fresh big
      · obtain ⟨j, x, y', g1, _⟩ := zipL_mem z
        exact I1.hok.fresh (Nat.le_trans (by rw [hsz]; exact Nat.le_add_right _ _) (mT.lt p.1 (List.mem_of_getElem? g1)))
    rw [ep, e] at hlo
    cases hlo
  · rcases List.mem_cons.mp hp with z | z
    · rw [z]; exact big
    · obtain ⟨j, x, y', g1, _⟩ := zipL_mem z
      exact Nat.le_trans (by rw [hsz]; exact Nat.le_add_right _ _) (mT.lt p.1 (List.mem_of_getElem? g1))
  · rcases List.mem_cons.mp hp with z | z
    · rw [z]
      exact ⟨by rw [List.length_map]; omega, _, vr Ts, _, Heap.get?_push_size _ rfl, rfl, 0, rfl⟩
    · obtain ⟨j, x, y', g1, g2, g3, g4⟩ := zipL_mem z
      obtain ⟨x2, y2, m1, m2, m3⟩ := mT.at_ j p.1 g1
      obtain ⟨u, w1, w2⟩ := rv.get g2
      obtain ⟨u', w3, w4⟩ := rv2.get g3
      rw [List.getElem?_toArray, w1] at m1
      rw [List.getElem?_toArray, w3] at m2
      cases m1
      cases m2
      rw [g4]
      exact ⟨by show 2 ≤ sizeLine; decide, [x2, y2], .cons w2 (.cons w4 .nil), _, Heap.get?_push_of_some _ m3, rfl, 0, rfl⟩
end Zj

namespace Zj
open PySem PySem.Spec PyProof.Rows L2
/-! ### every other item of a list -/
def evens {α : Type} : List α → List α
  | [] => []
  | [a] => [a]
  | a :: _ :: l => a :: evens l
theorem evens_pick {α : Type} : ∀ (l : List α) (m : Nat), m = (l.length + 1) / 2 → (List.range m).filterMap (fun k => l[2 * k]?) = evens l
  | [], m, h => by
    obtain rfl : m = 0 := by simpa using h
    rfl
  | [a], m, h => by
    obtain rfl : m = 1 := by simpa using h
    rfl
  | a :: b :: l, m, h => by
    obtain ⟨m', rfl⟩ : ∃ m', m = m' + 1 := ⟨m - 1, by simp only [List.length_cons] at h; omega⟩
    rw [List.range_succ_eq_map, List.filterMap_cons, List.filterMap_map]
    show a :: _ = a :: evens l
    rw [← evens_pick l m' (by simp only [List.length_cons] at h; omega)]
    rfl
theorem sl2 (n s : Nat) (hs : s ≤ n) : sliceRange (s : Int) (n : Int) 2 = (List.range ((n - s + 1) / 2)).map fun k => s + 2 * k := by
  unfold sliceRange
  have h1 : (2 : Int) > 0 := by decide
  simp only [h1, if_true]
  by_cases h : (s : Int) < n
  · have e : ((n : Int) - s + 2 - 1) / 2 = (((n - s + 1) / 2 : Nat) : Int) := by omega
    simp only [h, if_true, e, Int.toNat_natCast]
    apply List.map_congr_left
    intro k hk
    omega
  · have e : n - s = 0 := by omega
    simp only [h, if_false, e]
    rfl
theorem pick0 (its : List Value) : slicePick its.toArray none none (some 2) = (evens its).toArray := by
  unfold slicePick
  have e : sliceBounds none none (some 2) its.toArray.size = (((0 : Nat) : Int), (its.length : Int), (2 : Int)) := by simp [sliceBounds]
  rw [e]
  show ((sliceRange ((0 : Nat) : Int) (its.length : Int) 2).filterMap fun i => its.toArray[i]?).toArray = _
  rw [sl2 _ _ (Nat.zero_le _), List.filterMap_map, ← evens_pick its _ rfl]
  simp [Function.comp_def]
theorem pick1 (its : List Value) : slicePick its.toArray (some 1) none (some 2) = (evens (its.drop 1)).toArray := by
  unfold slicePick
  have e : sliceBounds (some 1) none (some 2) its.toArray.size = (((min 1 its.length : Nat) : Int), (its.length : Int), (2 : Int)) := by
    have e1 : max (0 : Int) (min 1 (its.length : Int)) = ((min 1 its.length : Nat) : Int) := by omega
    rw [← e1]
    simp [sliceBounds]
  rw [e]
  show ((sliceRange ((min 1 its.length : Nat) : Int) (its.length : Int) 2).filterMap fun i => its.toArray[i]?).toArray = _
  rw [sl2 _ _ (Nat.min_le_right _ _), List.filterMap_map]
  cases its with
  | nil => rfl
  | cons a l =>
    rw [← evens_pick (List.drop 1 (a :: l)) _ rfl]
    have e1 : min 1 (a :: l).length = 1 := by simp
    rw [e1]
    congr 1
    have e2 : ((a :: l).length - 1 + 1) / 2 = ((List.drop 1 (a :: l)).length + 1) / 2 := by simp
    rw [e2]
    have e3 : ((fun i => (a :: l).toArray[i]?) ∘ fun k => 1 + 2 * k) = fun k => (List.drop 1 (a :: l))[2 * k]? := by
      funext k
      show (a :: l).toArray[1 + 2 * k]? = (List.drop 1 (a :: l))[2 * k]?
      rw [List.getElem?_toArray, List.getElem?_drop]
    rw [e3]
theorem vals_evens {n : Nat} : ∀ {xs : List V} {its : List Value}, Vals xs its → Vals (evens xs) (evens its)
  | _, _, .nil => .nil
  | _, _, .cons r .nil => .cons r .nil
  | _, _, .cons r (.cons _ t) => .cons r (vals_evens (n := n) t)
theorem evens_len {α : Type} : ∀ l : List α, (evens l).length = (l.length + 1) / 2
  | [] => by simp [evens]
  | [_] => by simp [evens]
  | _ :: _ :: l => by
    show (evens l).length + 1 = _
    rw [evens_len l]
    simp only [List.length_cons]
    omega
/-- x[::2] -/
def tSl2 (K : PySem.W.Frag) (te : TE) : TE := fun σ H Q => te σ H fun x H1 => ∃ a xs, x = .ref a ∧ SqL K H1 a xs ∧ ∀ p, H1 p = none → Q (.ref p) (upd H1 p (.lst (evens xs)))
theorem pe_sl02 {X : Cx} {e : Expr} {te : TE} {k : Nat} {p1 p3 pos : Pos} (he : PE X e te) : PE X (.Subscript e (.Slice none none (some (.Constant (.int 2) k p1)) p3) pos) (tSl2 X.K te) := by
  refine ⟨fun pins s σ H Q I h => ?_⟩
  refine Subscript_ (thn (he.run pins s σ H _ I h) fun v s1 ⟨x, H1, I1, r1, a, xs, ex, hx, q⟩ => ?_)
  subst ex
  cases r1
  have hst : PO X (some (.Constant (.int 2) k p1)) (tPart (tC (.int 2))) := po_some pe_int
  refine wpAny_Slice (thn (po_none.run pins s1 σ H1 (fun o H2 => o = none ∧ H2 = H1) I1 ⟨rfl, rfl⟩) fun vl s2 ⟨l, H2, I2, pl, el, e2⟩ => ?_)
  subst el e2
  refine thn (po_none.run pins s2 σ H2 (fun o H3 => o = none ∧ H3 = H2) I2 ⟨rfl, rfl⟩) fun vu s3 ⟨u, H3, I3, pu, eu, e3⟩ => ?_
  subst eu e3
  refine thn (hst.run pins s3 σ H3 (fun o H4 => o = some 2 ∧ H4 = H3) I3 ⟨2, rfl, rfl, rfl⟩) fun vs s4 ⟨o, H4, I4, ps, eo, e4⟩ => ?_
  subst eo e4
  have J5 : Inv X pins σ H4 { s4 with heap := s4.heap.push { cls := .type "slice", data := .fields #[vl, vu, vs] } } := I4.kept (t' := s4.toks) fun b ob q => Heap.get?_push_of_some _ q
  obtain ⟨its, r, ht, hz⟩ := J5.list hx
  have lenr := r.length
  show wpAny (model X.prog X.w) X.A (subscriptTail e (.Slice none none (some (.Constant (.int 2) k p1)) p3) (.ref a) (.ref s4.heap.objs.size)) (EP X pins σ Q) X.xe { s4 with heap := s4.heap.push { cls := .type "slice", data := .fields #[vl, vu, vs] } }
  refine tail_any (ops := [.ref a, .ref s4.heap.objs.size]) ht.isList.typeIs (PySem.slot_list_getitem.lookup) ?_ (by with_unfolding_all rfl)
  refine wpAny_getItem_list_slice ht.isList (Heap.IsSliceOf.new _ vl vu vs) pl pu ps (by decide) ?_ (by rw [List.size_toArray]; omega)
  rw [pick0]
  exact ⟨.ref _, _, J5.laid (t' := s4.toks) (o := .lst (evens xs)) (fun b ob q => Heap.get?_push_of_some _ q) (Nat.le_refl _) ⟨by rw [evens_len]; omega, _, 0, vals_evens (n := 0) r, Heap.get?_push_size _ rfl⟩, rfl, q _ (J5.hok.fresh (Nat.le_refl _))⟩
/-- x[1::2] -/
def tSl12 (K : PySem.W.Frag) (te : TE) : TE := fun σ H Q => te σ H fun x H1 => ∃ a xs, x = .ref a ∧ SqL K H1 a xs ∧ ∀ p, H1 p = none → Q (.ref p) (upd H1 p (.lst (evens (xs.drop 1))))
theorem pe_sl12 {X : Cx} {e : Expr} {te : TE} {k k0 : Nat} {p0 p1 p3 pos : Pos} (he : PE X e te) : PE X (.Subscript e (.Slice (some (.Constant (.int 1) k0 p0)) none (some (.Constant (.int 2) k p1)) p3) pos) (tSl12 X.K te) := by
  refine ⟨fun pins s σ H Q I h => ?_⟩
  refine Subscript_ (thn (he.run pins s σ H _ I h) fun v s1 ⟨x, H1, I1, r1, a, xs, ex, hx, q⟩ => ?_)
  subst ex
  cases r1
  have hst : PO X (some (.Constant (.int 2) k p1)) (tPart (tC (.int 2))) := po_some pe_int
  have hlo : PO X (some (.Constant (.int 1) k0 p0)) (tPart (tC (.int 1))) := po_some pe_int
  refine wpAny_Slice (thn (hlo.run pins s1 σ H1 (fun o H2 => o = some 1 ∧ H2 = H1) I1 ⟨1, rfl, rfl, rfl⟩) fun vl s2 ⟨l, H2, I2, pl, el, e2⟩ => ?_)
  subst el e2
  refine thn (po_none.run pins s2 σ H2 (fun o H3 => o = none ∧ H3 = H2) I2 ⟨rfl, rfl⟩) fun vu s3 ⟨u, H3, I3, pu, eu, e3⟩ => ?_
  subst eu e3
  refine thn (hst.run pins s3 σ H3 (fun o H4 => o = some 2 ∧ H4 = H3) I3 ⟨2, rfl, rfl, rfl⟩) fun vs s4 ⟨o, H4, I4, ps, eo, e4⟩ => ?_
  subst eo e4
  have J5 : Inv X pins σ H4 { s4 with heap := s4.heap.push { cls := .type "slice", data := .fields #[vl, vu, vs] } } := I4.kept (t' := s4.toks) fun b ob q => Heap.get?_push_of_some _ q
  obtain ⟨its, r, ht, hz⟩ := J5.list hx
  have lenr := r.length
  show wpAny (model X.prog X.w) X.A (subscriptTail e (.Slice (some (.Constant (.int 1) k0 p0)) none (some (.Constant (.int 2) k p1)) p3) (.ref a) (.ref s4.heap.objs.size)) (EP X pins σ Q) X.xe { s4 with heap := s4.heap.push { cls := .type "slice", data := .fields #[vl, vu, vs] } }
  refine tail_any (ops := [.ref a, .ref s4.heap.objs.size]) ht.isList.typeIs (PySem.slot_list_getitem.lookup) ?_ (by with_unfolding_all rfl)
  refine wpAny_getItem_list_slice ht.isList (Heap.IsSliceOf.new _ vl vu vs) pl pu ps (by decide) ?_ (by rw [List.size_toArray]; omega)
  rw [pick1]
  have rd : Vals (xs.drop 1) (its.drop 1) := paired_drop 1 r
  exact ⟨.ref _, _, J5.laid (t' := s4.toks) (o := .lst (evens (xs.drop 1))) (fun b ob q => Heap.get?_push_of_some _ q) (Nat.le_refl _) ⟨by rw [evens_len, List.length_drop]; omega, _, 0, vals_evens (n := 0) rd, Heap.get?_push_size _ rfl⟩, rfl, q _ (J5.hok.fresh (Nat.le_refl _))⟩
end Zj

namespace Zj
open PySem PySem.Spec PyProof.Rows L2 LamX NdefX
/-! ### a lambda with parameters that captures nothing: made, handed on, called -/
def LamO (f : Addr) (F : NF) (b : Expr) : HO := .ext fun h => ∃ pm ctv : Value, h.get? f = some (PySem.W.kla_obj F.name F.qual F.params b F.scope F.cl pm F.c ctv)
theorem lamO_nt {f : Addr} {F : NF} {b : Expr} (q : Array Value) : LamO f F b ≠ .tbl q := fun z => by unfold LamO at z; cases z
theorem lamO_get {P : Program} {w : World} {H : Hp} {h : Heap} {f : Addr} {F : NF} {b : Expr} (k : HOk P w H h) (e : H f = some (LamO f F b)) : ∃ pm ctv : Value, h.get? f = some (PySem.W.kla_obj F.name F.qual F.params b F.scope F.cl pm F.c ctv) := (k f _ e).1
section
variable {X : Cx} {pins : List (Addr × Obj)} {σ : L2.St} {H : Hp} {s : Shared}
theorem inv_lam {F : NF} {b : Expr} {t' : Nat} {pm ctv : Value} (I : Inv X pins σ H s) :
    Inv X pins σ (upd H s.heap.objs.size (LamO s.heap.objs.size F b)) { s with heap := s.heap.push (PySem.W.kla_obj F.name F.qual F.params b F.scope F.cl pm F.c ctv), toks := t' } := by
  have g : (s.heap.push (PySem.W.kla_obj F.name F.qual F.params b F.scope F.cl pm F.c ctv)).get? s.heap.objs.size = some (PySem.W.kla_obj F.name F.qual F.params b F.scope F.cl pm F.c ctv) := Heap.get?_push_size _ rfl
  exact I.laid (a := s.heap.objs.size) (fun d v q => Heap.get?_push_of_some _ q) (Nat.le_refl _) ⟨⟨pm, ctv, g⟩, ⟨_, g⟩, fun h1 h2 ⟨a1, a2, z⟩ st => ⟨a1, a2, st _ z⟩⟩
abbrev lamF (X : Cx) (params : Arguments) (scope : Scope) (c' : Addr) : NF := ⟨"<lambda>", X.env.qual ++ "<lambda>", params, [], scope, cloFrom X.env.cells scope.names [], c'⟩
theorem lam_mk {T : List (Addr × Str)} {c P : Addr} {params : Arguments} {body : Expr} {scope : Scope} {pos : Pos} {E Q : Value → Shared → Prop} (I : Inv X pins σ H s) (TB : TabB X.base X.mg c P) (hcode : X.env.code = .ref c) (hT : Tabs T H)
    (hm : (P, X.env.qual ++ "<lambda>") ∈ T) (hu : ∀ p ∈ T, p.1 = P → p.2 = X.env.qual ++ "<lambda>") (hdef : defaultsOf params X.env = ([], [])) (hfree : ∀ y ∈ scope.names, y.2 = .free → ∃ c, X.env.cells.lookup y.1 = some c)
    (h : ∀ (f c' : Addr) (H1 : Hp) (s' : Shared), Inv X pins σ H1 s' → ExtN H H1 → Tabs T H1 → H f = none → H1 f = some (LamO f (lamF X params scope c') body) → H1 c' = some (CodeO c' (X.env.qual ++ "<lambda>")) → Q (.ref f) s') :
    wpAny (model X.prog X.w) X.A (eval (.Lambda params body scope pos) X.env) Q E s := by
  have tb := hT _ hm
  obtain ⟨ps, e1, e2, e3⟩ := tb
  have hP := I.hok P _ e1
  have bP := TB.bm.keeps I.bk
  refine PySem.W.kla_eval hdef ?_
  rcases hc : codeAmong pos ps.toList with _ | cv
  · refine PySem.W.kla_makeFunction (c := c) (P := P) (mg := X.mg) (ps := ps) (closure_ok hfree) I.ok.glob (I.mod.glob.keeps I.bk) hcode (TB.code.keeps I.bk) hP e2 hc TB.gP bP fun c' ctv h' tk hx hge hlt hrec htb => ?_
    obtain ⟨_, oc, vs, t, q1, q2, q3, q4⟩ := hrec
    cases q1
    have nC := I.hok.fresh hge
    have nPc := ne_of_none e1 nC
    have J := inv_table (t' := tk) (more := #[rawInt pos.line, rawInt pos.col, .ref c']) I e1 (fun d v n q => hx d v n q) htb hge ⟨oc, vs, t, q2, q3, q4⟩
    have nF := J.hok.fresh (Nat.le_refl _)
    have J2 := inv_lam (F := lamF X params scope c') (b := body) (t' := tk) (pm := (X.mg "__name__").getD .none) (ctv := ctv) J
    have x1 : ExtN H (upd (upd H P (.tbl (ps ++ #[rawInt pos.line, rawInt pos.col, .ref c']))) c' (CodeO c' (X.env.qual ++ "<lambda>"))) := fun d v q n => by
      have nd : d ≠ P := fun z => by
        rw [z, e1] at q
        exact n ps (Option.some.inj q).symm
      rw [upd_ne (ne_of_none q nC), upd_ne nd, q]
    have eT : (ps ++ #[rawInt pos.line, rawInt pos.col, Value.ref c']).toList = ps.toList ++ [rawInt pos.line, rawInt pos.col, .ref c'] := by simp
    have T1 : Tabs T (upd (upd H P (.tbl (ps ++ #[rawInt pos.line, rawInt pos.col, .ref c']))) c' (CodeO c' (X.env.qual ++ "<lambda>"))) := by
      intro p hp
      obtain ⟨qs, a1, a2, a3⟩ := hT p hp
      by_cases z : p.1 = P
      · refine ⟨ps ++ #[rawInt pos.line, rawInt pos.col, .ref c'], by rw [z, upd_ne nPc, upd_same], ?_, fun p' cv hcv => ?_⟩
        · rw [eT]
          exact PySem.TriplesOk_snoc _ _ _ _ e2
        · rw [eT] at hcv
          rw [hu p hp z]
          rcases among_app _ e2 hcv with y | y
          · obtain ⟨d, y1, y2⟩ := e3 p' cv y
            exact ⟨d, y1, x1 _ _ y2 codeO_ne⟩
          · exact ⟨c', y, upd_same⟩
      · refine ⟨qs, by rw [upd_ne (ne_of_none a1 nC), upd_ne z, a1], a2, fun p' cv hcv => ?_⟩
        obtain ⟨d, y1, y2⟩ := a3 p' cv hcv
        exact ⟨d, y1, x1 _ _ y2 codeO_ne⟩
    refine h h'.objs.size c' _ _ J2 (fun d v q n => ?_) (T1.ext fun d v q => ?_) (I.hok.fresh (Nat.le_trans hge (Nat.le_of_lt hlt))) upd_same ?_
    · have y := x1 d v q n
      rw [upd_ne (ne_of_none y nF), y]
    · rw [upd_ne (ne_of_none q nF), q]
    · rw [upd_ne (Nat.ne_of_lt hlt), upd_same]
  · obtain ⟨c', rfl, e4⟩ := e3 pos cv hc
    refine PySem.W.kla_makeFunctionHit (c := c) (P := P) (mg := X.mg) (ps := ps) (closure_ok hfree) I.ok.glob (I.mod.glob.keeps I.bk) hcode (TB.code.keeps I.bk) hP e2 hc bP fun ctv h' tk hx _ => ?_
    have J : Inv X pins σ H { s with heap := h', toks := tk } := I.kept hx
    have nF := J.hok.fresh (Nat.le_refl _)
    have J2 := inv_lam (F := lamF X params scope c') (b := body) (t' := tk) (pm := (X.mg "__name__").getD .none) (ctv := ctv) J
    have st : ∀ d v, H d = some v → upd H h'.objs.size (LamO h'.objs.size (lamF X params scope c') body) d = some v := fun d v q => by rw [upd_ne (ne_of_none q nF), q]
    exact h h'.objs.size c' _ _ J2 (fun d v q _ => st d v q) (hT.ext st) nF upd_same (st _ _ e4)
end
/-- what such a lambda promises -/
structure LOk (P : Program) (w : World) (K : PySem.W.Frag) (mg : Str → Option Value) (base : Heap) (k : Nat) (f : Addr) (F : NF) (b : Expr) (ps : List Str) (sp : Sp) : Prop where
  len : ∀ vs H Q E, sp vs H Q E → vs.length = ps.length
  go : ∀ (A : Around) (outer : List Env) (s : Shared) (H : Hp) (us : List Value) (vs : List V) (Q : VK), Room k A → Env0 P w K mg base A outer s H → H f = some (LamO f F b) → H F.c = some (CodeO F.c F.qual) → Vals vs us → sp vs H Q E0 →
    codeAny (model P w) A (.call (.ref f) ⟨us, []⟩) (CR CX0 outer P w H s Q E0) s
theorem lok_of {P : Program} {w : World} {K : PySem.W.Frag} {mg : Str → Option Value} {base : Heap} {N ps : List Str} {F : NF} {b : Expr} {f : Addr} {k : Nat} {sp : Sp} (S : NScope N ps [] F.scope) (hcl : F.cl = [])
    (hb : ∀ (pm ctv : Value) (us : List Value), us.length = ps.length → bindArgs (PySem.W.kla_fn F.name F.qual F.params b F.scope F.cl pm (.ref F.c) ctv) ⟨us, []⟩ = pure (ps.zip us)) (len : ∀ vs H Q E, sp vs H Q E → vs.length = ps.length)
    (body : ∀ (A : Around) (outer : List Env) (s : Shared) (H : Hp) (vs : List V) (Q : VK), Room k (A.deeper (envF F f s.heap.objs.size)) → sp vs H Q E0 → ∃ t, PE (ncx CX0 P w K mg base N F f A outer s H E0) b t ∧ t (startF N vs []) H Q) :
    LOk P w K mg base (k + 1) f F b ps sp := by
  refine ⟨len, fun A outer s H us vs Q hr e0 hf hc r q => ?_⟩
  have hl := len _ _ _ _ q
  have C : CellsAt F.cl [] [] s.heap H := by
    rw [hcl]
    exact ⟨rfl, (fun y c z => by cases z), (fun x y c z => by cases z), fun i y z => by simp at z⟩
  obtain ⟨pm, ctv, ho⟩ := lamO_get e0.hok hf
  refine PySem.W.kla_callFunE hr.depth ho rfl S.co S.gen rfl (codeO_at e0.hok hc) ?_
  rw [hb pm ctv us (r.length.symm.trans hl)]
  refine wpAny_pure (wpAny_newFunctionEnv S.nocell (fun y hy => S.par y.1 (List.of_mem_zip (show (y.1, y.2) ∈ ps.zip us from hy)).1) (fun g hns hsb => ⟨(e0.mod.nolimit.keeps fun d v z => (e0.bs d v z).1).fresh _ hsb, ?_⟩) S.kind)
  show codeAny _ _ (.expr b (envF F f s.heap.objs.size)) _ _
  obtain ⟨t, ht, hq⟩ := body A outer s H vs Q (hr.deeper _) q
  have I : Inv (ncx CX0 P w K mg base N F f A outer s H E0) [] (startF N vs []) H { s with heap := g, toks := s.toks + (ps.zip us).length } :=
    inv_startN S hr.hd e0 hl r C hns fun d v z => hsb.extBut d v (Nat.ne_of_lt (Heap.lt_size z)) (Heap.get?_push_of_some _ z)
  refine PySem.W.kla_codeExpr (wpAny_mono (ht.run [] _ _ H Q I hq) (fun v s' z => ?_) fun e s' z => z)
  obtain ⟨v', H', J, rv, q'⟩ := z
  exact ⟨v', H', J.os, J.bare, J.base, J.hok, rv, q'⟩
/-- f is a function of two bools that answers as g does -/
def Wn (P : Program) (w : World) (K : PySem.W.Frag) (mg : Str → Option Value) (base : Heap) (H : Hp) (f : Addr) (g : Bool → Bool → Bool) : Prop :=
  ∃ (F : NF) (b : Expr) (ps : List Str), H f = some (LamO f F b) ∧ H F.c = some (CodeO F.c F.qual) ∧ LOk P w K mg base 1 f F b ps (fun vs H Q _ => ∃ x y, vs = [.bl x, .bl y] ∧ Q (.bl (g x y)) H)
theorem Wn.ext {P : Program} {w : World} {K : PySem.W.Frag} {mg : Str → Option Value} {base : Heap} {H H' : Hp} {f : Addr} {g : Bool → Bool → Bool} (h : Wn P w K mg base H f g) (e : ExtN H H') : Wn P w K mg base H' f g := by
  obtain ⟨F, b, ps, h1, h2, h3⟩ := h
  exact ⟨F, b, ps, e _ _ h1 lamO_nt, e _ _ h2 codeO_ne, h3⟩
/-- a local name that holds such a function, called -/
def tCallW (P : Program) (w : World) (K : PySem.W.Frag) (mg : Str → Option Value) (base : Heap) (i : Nat) (t : TA) : TE := fun σ H Q => ∃ f g, σ[i]? = some (some (.ref f)) ∧ Wn P w K mg base H f g ∧ t σ H fun vs H1 => Wn P w K mg base H1 f g ∧ ∃ x y, vs = [.bl x, .bl y] ∧ Q (.bl (g x y)) H1
section
variable {X : Cx} {i j : Nat} {x : Str} {t : TA} {e : Expr} {es : List Expr} {p pos : Pos}
theorem Wn.fn {pins : List (Addr × Obj)} {σ : L2.St} {H : Hp} {s : Shared} {P : Program} {w : World} {K : PySem.W.Frag} {mg : Str → Option Value} {base : Heap} {f : Addr} {g : Bool → Bool → Bool} (h : Wn P w K mg base H f g) (I : Inv X pins σ H s) : PySem.W.FnAt f s.heap := by
  obtain ⟨F, b, ps, h1, _⟩ := h
  obtain ⟨pm, ctv, ho⟩ := lamO_get I.hok h1
  exact ⟨_, _, _, _, ho⟩
theorem pe_callW (hr : Room j X.A) (hj : 1 ≤ j) (hN : X.N[i]? = some x) (hv : Vis X.env.scope x) (ha : PA X (e :: es) t) (hd : (x == ("__debug__" : Str)) = false := by decide) (hcd : (x == ("__classdict__" : Str)) = false := by decide)
    (he : starEach (e :: es) X.env = (false, eval e X.env) :: starEach es X.env := by rfl) (hpl : (backTo pos (starEach es X.env)).any (·.1) = false := by rfl) : PE X (.Call (.Name x p) (e :: es) [] pos) (tCallW X.prog X.w X.K X.mg X.base i t) := by
  refine ⟨fun pins s σ H Q I ⟨f, g, hs, hW, ht⟩ => ?_⟩
  have pv' := (pe_var (X := X) (pos := p) hN hv hd hcd).run pins s σ H (fun v H1 => v = .ref f ∧ H1 = H) I ⟨.ref f, hs, rfl, rfl⟩
  refine wpAny_Call_Name_kw (thn pv' fun u s1 ⟨v, H1, I1, r1, ev, eH⟩ => ?_)
  subst ev
  rw [eH] at I1
  obtain rfl : u = Value.ref f := r1
  refine PySem.W.callWith_F (first := []) (hW.fn I1) (thn (ha.run pos pins s1 σ H _ I1 ht) fun us s2 ⟨vs, H2, I2, r, h1, q⟩ => ⟨h1.fn I2, ?_⟩) he hpl
  show wpAny _ _ (call (.ref f) us) _ _ _
  obtain ⟨F, b, ps, w1, w2, w3⟩ := h1
  refine wpAny_call (codeAny_mono (w3.go X.A X.stack s2 H2 us vs Q (hr.mono hj) I2.env0 w1 w2 r q) fun z s' hq => ?_)
  cases z with
  | error e => exact hq.elim
  | ok fl =>
    cases fl with
    | ret u => exact I2.after hq
    | next => exact hq.elim
    | brk => exact hq.elim
    | cont => exact hq.elim
/-- the making -/
def tLamV (T : List (Addr × Str)) (mk : Addr → NF) (b : Expr) : TE := fun σ H Q => Tabs T H ∧ ∀ f c' H1, ExtN H H1 → Tabs T H1 → H f = none → H1 f = some (LamO f (mk c') b) → H1 c' = some (CodeO c' (mk c').qual) → Q (.ref f) H1
theorem pe_lamV {T : List (Addr × Str)} {c P : Addr} {params : Arguments} {b : Expr} {scope : Scope} (TB : TabB X.base X.mg c P) (hcode : X.env.code = .ref c) (hm : (P, X.env.qual ++ "<lambda>") ∈ T) (hu : ∀ p ∈ T, p.1 = P → p.2 = X.env.qual ++ "<lambda>")
    (hdef : defaultsOf params X.env = ([], [])) (hfree : ∀ y ∈ scope.names, y.2 = .free → ∃ c, X.env.cells.lookup y.1 = some c) : PE X (.Lambda params b scope pos) (tLamV T (lamF X params scope) b) :=
  ⟨fun pins s σ H Q I ⟨hT, h⟩ => lam_mk I TB hcode hT hm hu hdef hfree fun f c' H1 s' J e1 e2 e3 e4 e5 => ⟨.ref f, H1, J, rfl, h f c' H1 e1 e2 e3 e4 e5⟩⟩
end
end Zj

namespace Zj
open PySem PySem.Spec PyProof.Rows L2 LamX
/-- the law's call at the heap behind the top, some tables of code objects told -/
theorem endT {P : Program} {w : World} {K : PySem.W.Frag} {mg mb : Str → Option Value} {k : Nat} {fa a : Addr} {cs : List (Addr × Addr)} {fd : FuncData} {x : Str} {sp : Sp} {s1 : Shared} {vs : List Value} {ns : List Int}
    (KX : K.In s1.heap) (hns : s1.heap.Ns mainGlobals mg) (hb : s1.heap.Ns builtinsNs mb) (hbb : ∀ x : Str, x ≠ "__name__" → mb x = bootBuiltins x) (hlim : s1.heap.NoLimit) (hg : s1.gens = #[])
    (tE : ∀ q ∈ cs, s1.heap.get? q.2 = some (PySem.W.tabObj #[])) (tK : ∀ q ∈ cs, K.lookup q.2 = none) (tC : ∀ q ∈ cs, PySem.W.CodeHd s1.heap q.1 q.2)
    (hbm : ∃ (bm : Addr) (ob : Obj), mg "__builtins__" = some (.ref bm) ∧ bm ≠ builtinsNs ∧ s1.heap.get? bm = some ob ∧ ob.cls = .type "module" ∧ ob.dict = some builtinsNs ∧ ob.data = .plain)
    (ha : s1.heap.get? a = some { cls := .type "list", data := .seq vs.toArray }) (hi : IntsAre vs ns) (hl : ns.length ≤ sizeLine) (hr : Room k callerA)
    (F : ∀ base : Heap, K.In base → base.Ns mainGlobals mg → (∀ q ∈ cs, TabB base mg q.1 q.2) → FnG P w K mg base k fa fd [x] sp) (hbind : ∀ (s : Shared) (u : Value), BindsTo s fd ⟨[u], []⟩ [(x, u)])
    (hsp : ∀ H : Hp, (∀ q ∈ cs, H q.2 = some (.tbl #[])) → SqL K H a (ns.map V.int) → sp [.ref a] H (fun v _ => v = .bl true) E0) :
    codeAny (model P w) callerA (.call (.ref fa) ⟨[.ref a], []⟩) (fun r s' => r = .ok (.ret (.bool true)) ∧ OldK s1.heap s'.heap ∧ s'.os = s1.os ∧ AllBare s'.gens) s1 := by
  have rv := vals_ints hi
  have ntb : ∀ q ∈ cs, q.2 ≠ a := fun q hq z => by
    have e := tE q hq
    rw [z, ha] at e
    cases e
  have main : ∀ H : Hp, SqL K H a (ns.map V.int) → HOk P w H s1.heap → (∀ q ∈ cs, H q.2 = some (.tbl #[])) → (∀ b u, H b = some u → (b = a ∧ K.lookup a = none ∧ ∃ o z, u = .frz o (.lst z)) ∨ (u = .tbl #[] ∧ ∃ q ∈ cs, q.2 = b)) →
      codeAny (model P w) callerA (.call (.ref fa) ⟨[.ref a], []⟩) (fun r s' => r = .ok (.ret (.bool true)) ∧ OldK s1.heap s'.heap ∧ s'.os = s1.os ∧ AllBare s'.gens) s1 := by
    intro H hS hok hT hA
    -- what is no list and no empty table, or stands in K, is not tracked
    have free : ∀ {b : Addr} {o : Obj}, s1.heap.get? b = some o → ((∀ z n, o.data ≠ .seq z n) ∧ o.data ≠ .fields #[]) ∨ K.lookup b = some o → H b = none := fun {b o} e q => by
      cases h : H b with
      | none => rfl
      | some u =>
        rcases hA b u h with ⟨rfl, h2, _⟩ | ⟨_, t, ht, rfl⟩
        · rcases q with ⟨q, _⟩ | q
          · rw [ha] at e
            cases e
            exact (q _ _ rfl).elim
          · rw [h2] at q
            cases q
        · rcases q with ⟨_, q⟩ | q
          · rw [tE t ht] at e
            cases e
            exact (q rfl).elim
          · rw [tK t ht] at q
            cases q
    have at_ns : ∀ {b : Addr} {m : Str → Option Value}, s1.heap.Ns b m → (hidT s1.heap H).Ns b m := fun ⟨o, es, ep, e, d, r⟩ => ⟨o, es, ep, hidT_get e (free e (.inl ⟨(fun z n y => by rw [d] at y; cases y), (fun y => by rw [d] at y; cases y)⟩)), d, r⟩
    have KB : K.In (hidT s1.heap H) := fun b o e => hidT_get (KX b o e) (free (KX b o e) (.inr e))
    obtain ⟨mc, c1, c2⟩ := hlim
    have TB : ∀ q ∈ cs, TabB (hidT s1.heap H) mg q.1 q.2 := fun q hq => by
      have e1 := tE q hq
      refine ⟨?_, ?_, fun z => ?_⟩
      · obtain ⟨o, us, d1, d2, d3, d4, d5, d6, d7, g, y1, y2, y3, y⟩ := tC q hq
        exact ⟨o, us, d1, d2, d3, d4, d5, d6, d7, hidT_get g (free g (.inl ⟨(fun z n i => by rw [y2] at i; cases i), (fun i => by rw [y2] at i; cases i; simp at y3)⟩)), y1, y2, y3, y⟩
      · obtain ⟨bm, ob, b1, b2, b3, b4, b5, b6⟩ := hbm
        refine ⟨bm, ob, b1, b2, fun i => ?_, fun i => ?_, hidT_get b3 (free b3 (.inl ⟨(fun z n i => by rw [b6] at i; cases i), (fun i => by rw [b6] at i; cases i)⟩)), b4, b5, b6⟩
        · obtain ⟨o, es, ep, e, d, _⟩ := hns
          rw [i, e] at b3
          cases b3
          rw [d] at b6
          cases b6
        · rw [i, e1] at b3
          cases b3
          cases b6
      · obtain ⟨o, es, ep, e, d, _⟩ := hns
        rw [z, e1] at e
        cases e
        cases d
    have env : Env0 P w K mg (hidT s1.heap H) callerA [] s1 H := ⟨rfl, ⟨KB, at_ns hns, ⟨mb, at_ns hb, hbb⟩, ⟨mc, at_ns c1, c2⟩⟩, fun b o e => of_hidT e, Nat.le_of_eq (hidT_size _ _), trivial, (fun b q => nomatch q), hok, .of_eq hg⟩
    refine codeAny_mono ((F _ KB (at_ns hns) TB).go callerA [] s1 H ⟨[.ref a], []⟩ [.ref a] [.ref a] _ rfl hr env (hbind s1 (.ref a)) (.cons rfl .nil) (hsp H hT hS)) fun r s' h => ?_
    cases r with
    | error e => exact h.elim
    | ok fl =>
      cases fl with
      | next => exact h.elim
      | brk => exact h.elim
      | cont => exact h.elim
      | ret u =>
        obtain ⟨v, H', os, bare, un, hok', r', q⟩ := h
        obtain rfl : v = .bl true := q
        obtain rfl : u = Value.bool true := r'
        have each : ∀ b o, s1.heap.get? b = some o → s'.heap.get? b = some o ∨ ∃ t ∈ cs, t.2 = b := fun b o e => by
          cases q : H b with
          | none => exact .inl (un.keep b o e q (fun z => nomatch z) (fun z => nomatch z))
          | some u =>
            rcases hA b u q with ⟨_, _, o2, z2, rfl⟩ | ⟨_, t, ht, z⟩
            · have t1 := (hok b _ q).1
              have t2 := (hok' b _ (un.frzs b o2 _ q)).1
              rw [t1] at e
              cases e
              exact .inl t2
            · exact .inr ⟨t, ht, z⟩
        have grown : ∀ t ∈ cs, ∃ more : Array Value, s'.heap.get? t.2 = some (PySem.W.tabObj (#[] ++ more)) := fun t ht => by
          obtain ⟨more, z⟩ := un.tbls t.2 #[] (hT t ht)
          exact ⟨more, hok' t.2 _ z⟩
        refine ⟨rfl, ⟨fun b o e => ?_, fun b o e => ?_⟩, os, bare⟩
        · rcases each b o e with z | ⟨t, ht, rfl⟩
          · exact .inl z
          · obtain ⟨more, z⟩ := grown t ht
            have e1 := tE t ht
            rw [e1] at e
            cases e
            exact .inr (.inl ⟨((tC t ht).tab e1).isCodeTable, rfl, #[], more, rfl, z⟩)
        · rcases each b o e with z | ⟨t, ht, rfl⟩
          · exact ⟨o, z⟩
          · obtain ⟨more, z⟩ := grown t ht
            exact ⟨_, z⟩
  have tb : ∀ b : Addr, Decidable (∃ q ∈ cs, q.2 = b) := fun b => inferInstance
  cases hk : K.lookup a with
  | some o =>
    have e := KX a o hk
    rw [ha] at e
    cases e
    have one : ∀ (b : Addr) (u : HO), (if ∃ q ∈ cs, q.2 = b then some (HO.tbl #[]) else none) = some u → u = .tbl #[] ∧ ∃ q ∈ cs, q.2 = b := fun b u z => by
      split at z
      · rename_i y
        exact ⟨(Option.some.inj z).symm, y⟩
      · cases z
    refine main (fun b => if ∃ q ∈ cs, q.2 = b then some (.tbl #[]) else none) (.inr ⟨_, vs.toArray, _, hk, rfl, rfl, rfl, by rw [List.size_toArray, hi.length]; exact hl, rv⟩) (fun b u z => ?_) (fun q hq => if_pos ⟨q, hq, rfl⟩) fun b u z => .inr (one b u z)
    obtain ⟨rfl, q, hq, rfl⟩ := one b u z
    exact tE q hq
  | none =>
    have one : ∀ (b : Addr) (u : HO), (if b = a then some (HO.frz { cls := .type "list", data := .seq vs.toArray } (.lst (ns.map V.int))) else if ∃ q ∈ cs, q.2 = b then some (HO.tbl #[]) else none) = some u →
        (b = a ∧ u = HO.frz { cls := .type "list", data := .seq vs.toArray } (.lst (ns.map V.int))) ∨ (u = .tbl #[] ∧ ∃ q ∈ cs, q.2 = b) := fun b u z => by
      split at z
      · rename_i e
        exact .inl ⟨e, (Option.some.inj z).symm⟩
      · split at z
        · rename_i y
          exact .inr ⟨(Option.some.inj z).symm, y⟩
        · cases z
    refine main (fun b => if b = a then some (.frz { cls := .type "list", data := .seq vs.toArray } (.lst (ns.map V.int))) else if ∃ q ∈ cs, q.2 = b then some (.tbl #[]) else none) (.inl (.inr ⟨_, if_pos rfl⟩)) (fun b u z => ?_) (fun q hq => ?_) fun b u z => ?_
    · rcases one b u z with ⟨rfl, rfl⟩ | ⟨rfl, q, hq, rfl⟩
      · exact ⟨ha, by rw [List.length_map]; exact hl, vs, _, rv, ha⟩
      · exact tE q hq
    · show (if q.2 = a then _ else if ∃ p ∈ cs, p.2 = q.2 then some (HO.tbl #[]) else none) = _
      rw [if_neg (ntb q hq), if_pos ⟨q, hq, rfl⟩]
    · rcases one b u z with ⟨rfl, rfl⟩ | y
      · exact .inl ⟨rfl, hk, _, _, rfl⟩
      · exact .inr y
theorem walkT {l : PySem.W.OpenLaw} {n k : Nat} {q : Program} {loose : List Str} {XP : (Str → Option Value) → Heap → Prop} {YP : World → Heap → Prop} {d : DefRec} {K : Params → PySem.W.Frag} {cs : List (Addr × Addr)} {sp : PySem.W.Frag → Sp} {x : Str}
    (hn : l.most = some n) (hn2 : n ≤ sizeLine) (hdf : d.params.defaults = []) (hr : Room k callerA) (hY : ∀ (w : World) (h : Heap), YP w h → (K w.params).In h)
    (hT : ∀ (w : World) (h : Heap), YP w h → ∀ p ∈ cs, h.get? p.2 = some (PySem.W.tabObj #[])) (hK : ∀ w : World, ∀ p ∈ cs, (K w.params).lookup p.2 = none ∧ PySem.W.codeHdIn (K w.params) p.1 p.2 = true)
    (F : ∀ (w : World) (mg : Str → Option Value) (fa : Addr) (h : Heap), (K w.params).In h → h.Ns mainGlobals mg → mg d.name = some (.ref fa) →
      ∃ fd : FuncData, (∀ (s : Shared) (u : Value), BindsTo s fd ⟨[u], []⟩ [(x, u)]) ∧ ∀ base : Heap, (K w.params).In base → base.Ns mainGlobals mg → (∀ p ∈ cs, TabB base mg p.1 p.2) → FnG l.prog w (K w.params) mg base k fa fd [x] (sp (K w.params)))
    (hsp : ∀ (K : PySem.W.Frag) (H : Hp) (a : Addr) (ns : List Int), ns.length ≤ n → (∀ p ∈ cs, H p.2 = some (.tbl #[])) → SqL K H a (ns.map V.int) → sp K [.ref a] H (fun v _ => v = .bl true) E0) :
    PySem.W.WalkO q loose XP YP l.row.toRowW d [] (fun f vs => PySem.call f vs) := by
  refine Att.attach_call hn hdf fun w s0 s1 mg mb fa o pm cd doc a vs ns G Y ho hd hcd hmg hobj hints hlen hg => ?_
  have KX := hY w _ Y
  obtain ⟨fd, hb, hF⟩ := F w mg fa _ KX G.T.g hmg
  exact endT KX G.T.g G.T.b G.T.builtins G.T.nolimit hg (hT w _ Y) (fun p hp => (hK w p hp).1) (fun p hp => PySem.W.codeHd_of_K KX (hK w p hp).2) G.T.bmain hobj hints (Nat.le_trans hlen hn2) hr hF hb fun H hH hS => hsp _ H a ns hlen hH hS
end Zj

namespace Zj
open PySem PySem.Spec PyProof.Rows L2
/-- the statements within one -/
def inner : Stmt → List Stmt
  | .For _ _ b _ _ => b
  | .If _ b _ _ => b
  | _ => []
/-! ### min of a list of versions -/
theorem dl_ints : ∀ {x y : List Int}, x.length = y.length → PyProof.Rows.lexLt itemOrd (PySem.W.keyToksAll (x.map PyData.int)) (PySem.W.keyToksAll (y.map PyData.int)) = HT.lexLt x y
  | [], [], _ => lex_irrefl _
  | a :: x, b :: y, h => by
    rw [List.map_cons, List.map_cons, PySem.W.dataLt_cons (by simp [PySem.W.alike]), dl_ints (by simpa using h), PySem.W.dataLt_int]
    simp only [HT.lexLt]
    have e : PyData.eqv (.int a) (.int b) = decide (a = b) := rfl
    rw [e]
    by_cases q : a = b
    · rw [decide_eq_true q, if_pos rfl, if_pos q]
    · rw [decide_eq_false q, if_neg (by decide), if_neg q]
abbrev TD (x : Vr) : PyData := .tuple (x.map PyData.int)
theorem dl_td {x y : Vr} (h : x.length = y.length) : PySem.W.dataLt (TD x) (TD y) = HT.lexLt x y := by
  rw [PySem.W.dataLt_tuple, dl_ints h]
def minV (x : Vr) (xs : List Vr) : Vr := xs.foldl (fun a y => if HT.lexLt y a then y else a) x
theorem minV_all : ∀ {xs : List Vr} {x : Vr} {n : Nat}, x.length = n → (∀ y ∈ xs, y.length = n) → PySem.W.minD (TD x) (xs.map TD) = TD (minV x xs) ∧ (minV x xs = x ∨ minV x xs ∈ xs) ∧ HT.lexLt x (minV x xs) = false ∧ ∀ y ∈ xs, HT.lexLt y (minV x xs) = false
  | [], x, n, _, _ => ⟨rfl, .inl rfl, lx_irr x, fun _ h => nomatch h⟩
  | y :: ys, x, n, hx, hy => by
    have hy0 := hy y (List.mem_cons.mpr (.inl rfl))
    have e1 : PySem.W.minD (TD x) ((y :: ys).map TD) = PySem.W.minD (TD (if HT.lexLt y x then y else x)) (ys.map TD) := by
      show PySem.W.minD (if PySem.W.dataLt (TD y) (TD x) then TD y else TD x) (ys.map TD) = _
      rw [dl_td (hy0.trans hx.symm)]
      cases HT.lexLt y x <;> rfl
    have e2 : minV x (y :: ys) = minV (if HT.lexLt y x then y else x) ys := rfl
    have hl : (if HT.lexLt y x then y else x).length = n := by
      split
      · exact hy0
      · exact hx
    obtain ⟨a1, a2, a3, a4⟩ := minV_all (xs := ys) (x := if HT.lexLt y x then y else x) hl fun z hz => hy z (List.mem_cons.mpr (.inr hz))
    rw [e1, e2]
    refine ⟨a1, ?_, ?_, fun z hz => ?_⟩
    · rcases a2 with q | q
      · rw [q]
        cases HT.lexLt y x with
        | true => exact .inr (List.mem_cons.mpr (.inl rfl))
        | false => exact .inl rfl
      · exact .inr (List.mem_cons.mpr (.inr q))
    · cases q : HT.lexLt y x with
      | false =>
        rw [q] at a3
        exact a3
      | true =>
        rw [q, if_pos rfl] at a3
        rw [if_pos rfl]
        cases q2 : HT.lexLt x (minV y ys) with
        | false => rfl
        | true => rw [lx_trans q q2] at a3; cases a3
    · rcases List.mem_cons.mp hz with q | q
      · subst q
        cases q : HT.lexLt z x with
        | true =>
          rw [q] at a3
          exact a3
        | false =>
          rw [q, if_neg (by decide)] at a3
          rw [if_neg (by decide)]
          cases q2 : HT.lexLt z (minV x ys) with
          | false => rfl
          | true =>
            rcases lx_tot z x with t | t | t
            · rw [t] at q; cases q
            · rw [t, a3] at q2; cases q2
            · rw [lx_trans t q2] at a3; cases a3
      · exact a4 z q
def rMinV (K : PySem.W.Frag) : List V → Hp → VK → Prop := fun vs H Q => ∃ (a : Addr) (us : List V) (xs : List Vr), vs = [V.ref a] ∧ SqL K H a us ∧ Paired (IV K H) us xs ∧ xs ≠ [] ∧ (∀ x ∈ xs, x.length = 5) ∧ ∀ v x, IV K H v x → x ∈ xs → (∀ y ∈ xs, HT.lexLt y x = false) → Q v H
theorem alike_ints : ∀ x y : List Int, PySem.W.alikeAll (x.map PyData.int) (y.map PyData.int) = true
  | [], y => by cases y <;> simp [PySem.W.alikeAll]
  | a :: x, [] => by simp [PySem.W.alikeAll]
  | a :: x, b :: y => by
    rw [List.map_cons, List.map_cons, PySem.W.alikeAll, alike_ints x y]
    simp [PySem.W.alike]
theorem dep_td : ∀ xs : List Vr, PyData.depthAll (xs.map TD) ≤ 2
  | [] => by simp [PyData.depthAll]
  | x :: xs => by
    have h1 := dep_td xs
    have h2 := dep_ints x
    simp only [List.map_cons, PyData.depthAll, PyData.depth]
    omega
theorem ivs_dp {K : PySem.W.Frag} {H : Hp} : ∀ {us : List V} {xs : List Vr}, Paired (IV K H) us xs → DpAll K H us (xs.map TD)
  | _, _, .nil => .nil
  | _, _, .cons h t => .cons h.dp (ivs_dp t)
theorem td_inj {x y : Vr} (h : TD x = TD y) : x = y := by
  have h : x.map PyData.int = y.map PyData.int := by injection h
  exact List.map_inj_right (fun a b e => by injection e) |>.mp h
theorem call_minV {X : Cx} (hc : X.calm = true) (hu : X.A.units + 64 < cLine) : CallR X (.builtin "min") (rMinV X.K) := by
  intro pins s σ H vs uvs Q I r h
  obtain ⟨a, us, xs, rfl, hs, hp, hne, h5, q⟩ := h
  obtain ⟨its, rv, hl, _⟩ := I.list hs
  rw [Vals.ref1 r]
  cases xs with
  | nil => exact absurd rfl hne
  | cons x xs =>
    obtain ⟨as, rd⟩ := Dp.readsAll I ((x :: xs).map TD) us its (ivs_dp hp) rv
    obtain ⟨m1, m2, m3, m4⟩ := minV_all (h5 x (List.mem_cons.mpr (.inl rfl))) fun y hy => h5 y (List.mem_cons.mpr (.inr hy))
    refine PySem.W.min_list_data (I.ok.hd hc) hl.isList rd ⟨fun d hd e he => ?_, fun d hd => ?_⟩ ?_ fun i v h' tk bs hi hr hk => ?_
    · obtain ⟨y, _, rfl⟩ := List.mem_map.mp (show d ∈ (x :: xs).map TD from hd)
      obtain ⟨z, _, rfl⟩ := List.mem_map.mp (show e ∈ (x :: xs).map TD from he)
      rw [PySem.W.alike]
      exact alike_ints y z
    · obtain ⟨y, _, rfl⟩ := List.mem_map.mp (show d ∈ (x :: xs).map TD from hd)
      exact fun e => nomatch e
    · have := dep_td (x :: xs)
      have e : PyData.depthAll (TD x :: xs.map TD) = PyData.depthAll ((x :: xs).map TD) := rfl
      rw [e]
      omega
    · have hi' : its[i]? = some v := by
        rw [← hi]
        exact (List.getElem?_toArray ..).symm
      obtain ⟨z, hz, rz⟩ := paired_get2 rv hi'
      obtain ⟨y, hy, iy⟩ := paired_get hp hz
      obtain ⟨cs, rc⟩ := Dp.reads I (TD y) z v iy.dp rz
      have e := PySem.SeqAt.Reads.unique _ _ _ _ _ (show PyData.canLay0 (TD y) = true from lay_ints y) (PySem.W.reads_keeps hk rc) hr
      rw [m1] at e
      have e := td_inj e
      have hm : minV x xs ∈ x :: xs := m2.elim (fun q => by rw [q]; exact List.mem_cons.mpr (.inl rfl)) fun q => List.mem_cons.mpr (.inr q)
      exact ⟨z, H, I.kept hk, rz, q z y iy (by rw [e]; exact hm) fun w hw => by
        rw [e]
        rcases List.mem_cons.mp hw with t | t
        · rw [t]; exact m3
        · exact m4 w t⟩
/-! ### where a range's least version lies -/
theorem max_le : ∀ {l : List Vr}, l ≠ [] → ∃ m ∈ l, ∀ c ∈ l, le c m = true
  | [], h => absurd rfl h
  | [a], _ => ⟨a, by simp, fun c hc => by rw [List.mem_singleton.mp hc]; exact le_rfl a⟩
  | a :: b :: l, _ => by
    obtain ⟨m, hm, hl⟩ := max_le (l := b :: l) (by simp)
    cases q : le a m with
    | true => exact ⟨m, List.mem_cons.mpr (.inr hm), fun c hc => (List.mem_cons.mp hc).elim (fun e => by rw [e]; exact q) (hl c)⟩
    | false =>
      have h1 := le_of_lt (le_f.mp q)
      exact ⟨a, List.mem_cons.mpr (.inl rfl), fun c hc => (List.mem_cons.mp hc).elim (fun e => by rw [e]; exact le_rfl a) fun e => le_trans (hl c e) h1⟩
theorem first_in {B : Int} {p : Pr} {t : Rg} (h : RgOK B (p :: t)) : inB (p :: t) p.1 = true := by
  show (inP p p.1 || inB t p.1) = true
  have e : inP p p.1 = true := by
    show (!HT.lexLt p.1 p.1 && _) = true
    rw [lx_irr]
    cases q : p.2 with
    | none => rfl
    | some y =>
      have := h.asc
      have e : flat (p :: t) = p.1 :: (p.2.toList ++ flat t) := rfl
      rw [e, q] at this
      exact (List.pairwise_cons.mp this).1 y (List.mem_cons.mpr (.inl rfl))
  rw [e]
  rfl
theorem first_least {B : Int} {p : Pr} {t : Rg} (h : RgOK B (p :: t)) {x : Vr} (hx : inB (p :: t) x = true) : HT.lexLt x p.1 = false := by
  cases q : HT.lexLt x p.1 with
  | false => rfl
  | true =>
    rw [h.par x] at hx
    have e : flat (p :: t) = p.1 :: (p.2.toList ++ flat t) := rfl
    have asc := h.asc
    rw [e] at asc hx
    rw [par_above fun b hb => le_f.mpr (by
      rcases List.mem_cons.mp hb with z | z
      · rw [z]; exact q
      · exact lx_trans q ((List.pairwise_cons.mp asc).1 b z))] at hx
    cases hx
/-- the least version of what g makes of two ranges is a border of one of them -/
theorem first_border {B C : Int} {r s t : Rg} {p : Pr} (g : Bool → Bool → Bool) (g0 : g false false = false) (hr : RgOK B r) (hs : RgOK B s) (ht : RgOK C (p :: t)) (i : ∀ x, inB (p :: t) x = g (inB r x) (inB s x)) : p.1 ∈ flat r ++ flat s := by
  have f1 := first_in ht
  have ne : (flat r ++ flat s).filter (fun c => le c p.1) ≠ [] := fun q => by
    have z : ∀ c ∈ flat r ++ flat s, le c p.1 = false := fun c hc => by
      cases e : le c p.1 with
      | false => rfl
      | true =>
        have := (List.mem_filter (p := fun c => le c p.1)).mpr ⟨hc, e⟩
        rw [q] at this
        cases this
    rw [i, hr.par, hs.par, par_above fun c hc => z c (List.mem_append.mpr (.inl hc)), par_above fun c hc => z c (List.mem_append.mpr (.inr hc)), g0] at f1
    cases f1
  obtain ⟨m, hm, hl⟩ := max_le ne
  obtain ⟨hmC, hml⟩ := List.mem_filter.mp hm
  have same : ∀ c ∈ flat r ++ flat s, le c m = le c p.1 := fun c hc => by
    cases e : le c p.1 with
    | true => exact hl c ((List.mem_filter (p := fun c => le c p.1)).mpr ⟨hc, e⟩)
    | false =>
      cases e2 : le c m with
      | false => rfl
      | true => rw [le_trans e2 hml] at e; cases e
  have im : inB (p :: t) m = true := by
    rw [i, hr.par, hs.par, par_congr fun c hc => same c (List.mem_append.mpr (.inl hc)), par_congr fun c hc => same c (List.mem_append.mpr (.inr hc)), ← hr.par, ← hs.par, ← i]
    exact f1
  have h1 := first_least ht im
  rcases lx_tot m p.1 with q | q | q
  · rw [q] at h1; cases h1
  · rw [← q]; exact hmC
  · rw [le_t.mp hml] at q; cases q
theorem vv_paired {K : PySem.W.Frag} {H : Hp} {B : Int} : ∀ {us : List V}, (∀ v ∈ us, VV K B H v) → ∃ xs, Paired (IV K H) us xs ∧ ∀ x ∈ xs, Ver B x
  | [], _ => ⟨[], .nil, fun _ h => nomatch h⟩
  | v :: us, h => by
    obtain ⟨x, h1, h2⟩ := h v (List.mem_cons.mpr (.inl rfl))
    obtain ⟨xs, h3, h4⟩ := vv_paired (us := us) fun u hu => h u (List.mem_cons.mpr (.inr hu))
    exact ⟨x :: xs, .cons h1 h3, fun y hy => (List.mem_cons.mp hy).elim (fun e => by rw [e]; exact h2) (h4 y)⟩
theorem vv_paired_at {K : PySem.W.Frag} {H : Hp} {B : Int} {x0 : Vr} (h0 : Ver B x0) : ∀ {us : List V}, (∀ v ∈ us, VV K B H v) → ∃ xs, Paired (IV K H) us xs ∧ (∀ x ∈ xs, Ver B x) ∧ ((∃ v ∈ us, IV K H v x0) → x0 ∈ xs)
  | [], _ => ⟨[], .nil, (fun _ h => nomatch h), fun ⟨_, h, _⟩ => nomatch h⟩
  | v :: us, h => by
    obtain ⟨xs, h3, h4, h5⟩ := vv_paired_at h0 (us := us) fun u hu => h u (List.mem_cons.mpr (.inr hu))
    by_cases q : IV K H v x0
    · exact ⟨x0 :: xs, .cons q h3, fun y hy => (List.mem_cons.mp hy).elim (fun e => by rw [e]; exact h0) (h4 y), fun _ => List.mem_cons.mpr (.inl rfl)⟩
    · obtain ⟨x, h1, h2⟩ := h v (List.mem_cons.mpr (.inl rfl))
      exact ⟨x :: xs, .cons h1 h3, fun y hy => (List.mem_cons.mp hy).elim (fun e => by rw [e]; exact h2) (h4 y), fun ⟨u, hu, hi⟩ => List.mem_cons.mpr (.inr (h5 ⟨u, (List.mem_cons.mp hu).elim (fun e => absurd (by rw [← e]; exact hi) q) id, hi⟩))⟩
end Zj

namespace Zj
open PySem L2
/-! ### how many borders two differences have -/
def insV (b : Vr) : List Vr → List Vr
  | [] => [b]
  | c :: l => if HT.lexLt b c = true then b :: c :: l else if b = c then c :: l else c :: insV b l
theorem insV_mem {b x : Vr} : ∀ {l : List Vr}, x ∈ insV b l ↔ x = b ∨ x ∈ l
  | [] => by simp [insV]
  | c :: l => by
    unfold insV
    by_cases h : HT.lexLt b c = true
    · rw [if_pos h, List.mem_cons]
    · rw [if_neg h]
      by_cases e : b = c
      · rw [if_pos e, e]
        simp
      · rw [if_neg e, List.mem_cons, insV_mem (l := l), List.mem_cons]
        constructor
        · rintro (h | h | h)
          · exact .inr (.inl h)
          · exact .inl h
          · exact .inr (.inr h)
        · rintro (h | h | h)
          · exact .inr (.inl h)
          · exact .inl h
          · exact .inr (.inr h)
theorem insV_asc {b : Vr} : ∀ {l : List Vr}, l.Pairwise lt → (insV b l).Pairwise lt
  | [], _ => List.pairwise_singleton _ _
  | c :: l, h => by
    obtain ⟨h1, h2⟩ := List.pairwise_cons.mp h
    unfold insV
    by_cases q : HT.lexLt b c = true
    · rw [if_pos q]
      refine List.pairwise_cons.mpr ⟨fun x hx => ?_, h⟩
      rcases List.mem_cons.mp hx with e | e
      · rw [e]; exact q
      · exact lx_trans q (h1 x e)
    · rw [if_neg q]
      by_cases e : b = c
      · rw [if_pos e]; exact h
      · rw [if_neg e]
        refine List.pairwise_cons.mpr ⟨fun x hx => ?_, insV_asc h2⟩
        rcases insV_mem.mp hx with z | z
        · rw [z]
          rcases lx_tot b c with t | t | t
          · exact absurd t q
          · exact absurd t e
          · exact t
        · exact h1 x z
def sortV (l : List Vr) : List Vr := l.foldr insV []
theorem sortV_asc : ∀ l : List Vr, (sortV l).Pairwise lt
  | [] => .nil
  | _ :: l => insV_asc (sortV_asc l)
theorem sortV_mem {x : Vr} : ∀ {l : List Vr}, x ∈ sortV l ↔ x ∈ l
  | [] => Iff.rfl
  | b :: l => by
    show x ∈ insV b (sortV l) ↔ _
    rw [insV_mem, sortV_mem (l := l), List.mem_cons]
theorem turns_cons (g : Vr → Bool) (i : Bool) (b : Vr) (l : List Vr) : (turns g i (b :: l)).length = (if (g b != i) = true then 1 else 0) + (turns g (g b) l).length := by
  show (if (g b != i) = true then b :: turns g (!i) l else turns g i l).length = _
  cases e : g b <;> cases i <;> simp [Nat.add_comm]
theorem sum_turns (f g : Vr → Bool) : ∀ (l : List Vr) (i j : Bool), (turns (fun b => f b && !g b) (i && !j) l).length + (turns (fun b => g b && !f b) (j && !i) l).length ≤ (turns f i l).length + (turns g j l).length
  | [], _, _ => Nat.le_refl _
  | b :: l, i, j => by
    rw [turns_cons, turns_cons, turns_cons, turns_cons]
    have ih := sum_turns f g l (f b) (g b)
    have h : (if ((f b && !g b) != (i && !j)) = true then 1 else 0) + (if ((g b && !f b) != (j && !i)) = true then 1 else 0) ≤ (if (f b != i) = true then 1 else 0) + (if (g b != j) = true then (1 : Nat) else 0) := by
      cases f b <;> cases g b <;> cases i <;> cases j <;> decide
    omega
theorem flat_op {B C : Int} {r s t : Rg} (w : Bool → Bool → Bool) (w0 : w false false = false) (hr : RgOK B r) (hs : RgOK B s) (ht : RgOK C t) (i : ∀ x, inB t x = w (inB r x) (inB s x)) : flat t = turns (fun b => w (inB r b) (inB s b)) false (sortV (flat r ++ flat s)) := by
  obtain ⟨o1, o2⟩ := op_ok w w0 hr hs (sortV_asc (flat r ++ flat s)) (fun b hb => (List.mem_append.mp (sortV_mem.mp hb)).elim (flat_ver hr b) (flat_ver hs b)) fun c hc => sortV_mem.mpr hc
  rw [rg_ext ht o1 fun x => by rw [i, o2], prs_flat]
/-- what is in one alone of two: no more borders than both -/
theorem diff_len {B C D : Int} {r s t u : Rg} (hr : RgOK B r) (hs : RgOK B s) (ht : RgOK C t) (hu : RgOK D u) (i : ∀ x, inB t x = (inB r x && !inB s x)) (j : ∀ x, inB u x = (inB s x && !inB r x)) : (flat t).length + (flat u).length ≤ (flat r).length + (flat s).length := by
  have e1 := flat_op (fun a b => a && !b) rfl hr hs ht i
  have e2 := flat_op (fun a b => b && !a) rfl hr hs hu (fun x => j x)
  have e3 := flat_op (fun a _ => a) rfl hr hs hr (fun x => rfl)
  have e4 := flat_op (fun _ b => b) rfl hr hs hs (fun x => rfl)
  rw [congrArg List.length e1, congrArg List.length e2, congrArg List.length e3, congrArg List.length e4]
  exact sum_turns (inB r) (inB s) (sortV (flat r ++ flat s)) false false
theorem eqv_hd : ∀ o o' : Option Vr, PyData.eqv (HD o) (HD o') = decide (o = o')
  | none, none => rfl
  | none, some y => rfl
  | some x, none => rfl
  | some x, some y => by
    show PyData.eqv (.tuple (x.map PyData.int)) (.tuple (y.map PyData.int)) = _
    rw [eqv_ints]
    by_cases e : x = y
    · rw [decide_eq_true e, decide_eq_true (by rw [e])]
    · rw [decide_eq_false e, decide_eq_false (fun q => e (Option.some.inj q))]
theorem eqv_pd (p q : Pr) : PyData.eqv (PD p) (PD q) = decide (p = q) := by
  show (PyData.eqv (.tuple (p.1.map PyData.int)) (.tuple (q.1.map PyData.int)) && (PyData.eqv (HD p.2) (HD q.2) && true)) = _
  rw [eqv_ints, eqv_hd, Bool.and_true]
  by_cases e1 : p.1 = q.1
  · by_cases e2 : p.2 = q.2
    · rw [decide_eq_true e1, decide_eq_true e2, decide_eq_true (Prod.ext e1 e2)]; rfl
    · rw [decide_eq_false e2, Bool.and_false, decide_eq_false (fun z => e2 (by rw [z]))]
  · rw [decide_eq_false e1, Bool.false_and, decide_eq_false (fun z => e1 (by rw [z]))]
theorem eqv_rds : ∀ r s : Rg, PyData.eqvAll (r.map PD) (s.map PD) = decide (r = s)
  | [], [] => rfl
  | [], _ :: _ => rfl
  | _ :: _, [] => rfl
  | p :: r, q :: s => by
    show (PyData.eqv (PD p) (PD q) && PyData.eqvAll (r.map PD) (s.map PD)) = _
    rw [eqv_pd, eqv_rds r s]
    by_cases e1 : p = q
    · by_cases e2 : r = s
      · rw [decide_eq_true e1, decide_eq_true e2, decide_eq_true (by rw [e1, e2])]; rfl
      · rw [decide_eq_false e2, Bool.and_false, decide_eq_false (fun z => e2 (List.cons.inj z).2)]
    · rw [decide_eq_false e1, Bool.false_and, decide_eq_false (fun z => e1 (List.cons.inj z).1)]
theorem eqv_rd (r s : Rg) : PyData.eqv (RD r) (RD s) = decide (r = s) := eqv_rds r s
end Zj

namespace Zj
open PySem PySem.Spec PyProof.Rows L2
theorem u65 {k : Nat} {A : Around} (r : Room k A) : A.units + 65 < cLine := by have := r.un; omega
theorem op_notInDK {X : Cx} (K : PySem.W.Frag) (hu : X.A.units + 65 < cLine) (e : X.K = K := by rfl) : OpR X (compareOp .NotIn) (rNotInD K) := by
  subst e
  exact op_notInD hu
theorem sl_listK {X : Cx} (K : PySem.W.Frag) (e : X.K = K := by rfl) : SlR X (rSlL K) := by
  subst e
  exact sl_list
/-! ### stretches between borders -/
theorem marks_fn : ∀ {xs : List Vr} {ms : List Bool}, xs.Nodup → xs.length = ms.length → ∃ g : Vr → Bool, xs.map g = ms
  | [], [], _, _ => ⟨fun _ => false, rfl⟩
  | [], _ :: _, _, h => by simp at h
  | _ :: _, [], _, h => by simp at h
  | x :: xs, m :: ms, hn, h => by
    obtain ⟨h1, h2⟩ := List.nodup_cons.mp hn
    obtain ⟨g, hg⟩ := marks_fn h2 (by simpa using h)
    refine ⟨fun b => if b = x then m else g b, ?_⟩
    rw [List.map_cons, if_pos rfl, ← hg]
    congr 1
    refine List.map_congr_left fun b hb => ?_
    rw [if_neg fun e => h1 (by rw [← e]; exact hb)]
theorem lastB_no (g : Vr → Bool) (x : Vr) (i : Bool) {l : List Vr} (h : ∀ c, l[0]? = some c → le c x = false) : lastB g x i l = i := by
  cases l with
  | nil => rfl
  | cons b l =>
    show (if le b x = true then _ else i) = i
    rw [h b rfl]
    rfl
theorem lastB_idx (g : Vr → Bool) (x : Vr) : ∀ (i : Bool) {l : List Vr} {j : Nat} {b : Vr}, l.Pairwise lt → l[j]? = some b → le b x = true → (∀ c, l[j + 1]? = some c → le c x = false) → lastB g x i l = g b
  | _, [], _, _, _, h, _, _ => by simp at h
  | i, a :: l, 0, b, _, h, h1, h2 => by
    obtain rfl : a = b := Option.some.inj h
    show (if le a x = true then lastB g x (g a) l else i) = g a
    rw [if_pos h1]
    exact lastB_no g x (g a) fun c hc => h2 c hc
  | i, a :: l, j + 1, b, hl, h, h1, h2 => by
    obtain ⟨q1, q2⟩ := List.pairwise_cons.mp hl
    have hb : l[j]? = some b := h
    show (if le a x = true then lastB g x (g a) l else i) = g b
    rw [if_pos (le_back (q1 b (List.mem_of_getElem? hb)) h1)]
    exact lastB_idx g x (g a) q2 hb h1 h2
theorem lastB_true (g : Vr → Bool) (x : Vr) : ∀ (i : Bool) {l : List Vr}, l.Pairwise lt → lastB g x i l = true → (i = true ∧ ∀ c, l[0]? = some c → le c x = false) ∨ ∃ j b, l[j]? = some b ∧ le b x = true ∧ (∀ c, l[j + 1]? = some c → le c x = false) ∧ g b = true
  | i, [], _, h => .inl ⟨h, fun c hc => by simp at hc⟩
  | i, a :: l, hl, h => by
    obtain ⟨q1, q2⟩ := List.pairwise_cons.mp hl
    have h : (if le a x = true then lastB g x (g a) l else i) = true := h
    cases e : le a x with
    | false =>
      rw [e] at h
      exact .inl ⟨h, fun c hc => by obtain rfl : a = c := Option.some.inj hc; exact e⟩
    | true =>
      rw [e, if_pos rfl] at h
      rcases lastB_true g x (g a) q2 h with ⟨z1, z2⟩ | ⟨j, b, z1, z2, z3, z4⟩
      · exact .inr ⟨0, a, rfl, e, fun c hc => z2 c hc, z1⟩
      · exact .inr ⟨j + 1, b, z1, z2, fun c hc => z3 c hc, z4⟩
theorem seg_find {x : Vr} {l : List Vr} : ∀ (n : Nat) {i k : Nat} {b : Vr}, k - i = n → i ≤ k → k < l.length → l[i]? = some b → le b x = true → (∀ c, l[k + 1]? = some c → le c x = false) → ∃ j c, i ≤ j ∧ j ≤ k ∧ l[j]? = some c ∧ le c x = true ∧ ∀ e, l[j + 1]? = some e → le e x = false
  | 0, i, k, b, hn, hik, _, hb, hle, hk => by
    obtain rfl : i = k := by omega
    exact ⟨i, b, Nat.le_refl _, Nat.le_refl _, hb, hle, hk⟩
  | n + 1, i, k, b, hn, hik, hkl, hb, hle, hk => by
    have h1 : i + 1 < l.length := by omega
    cases e : le l[i + 1] x with
    | false => exact ⟨i, b, Nat.le_refl _, hik, hb, hle, fun c hc => by
        rw [List.getElem?_eq_getElem h1] at hc
        rw [← Option.some.inj hc]
        exact e⟩
    | true =>
      obtain ⟨j, c, z1, z2, z⟩ := seg_find n (i := i + 1) (k := k) (by omega) (by omega) hkl (List.getElem?_eq_getElem h1) e hk
      exact ⟨j, c, by omega, z2, z⟩
theorem seg_in {b : Vr} {o : Option Vr} {x : Vr} : inB [(b, o)] x = true ↔ le b x = true ∧ ∀ c, o = some c → le c x = false := by
  show ((le b x && _) || false) = true ↔ _
  rw [Bool.or_false, Bool.and_eq_true]
  cases o with
  | none => exact ⟨fun h => ⟨h.1, fun c hc => by cases hc⟩, fun h => ⟨h.1, rfl⟩⟩
  | some c => exact ⟨fun h => ⟨h.1, fun d hd => by rw [← Option.some.inj hd]; exact le_f.mpr h.2⟩, fun h => ⟨h.1, le_f.mp (h.2 c rfl)⟩⟩
/-- a stretch of marked ones lies in what is marked -/
theorem seg_sound {g : Vr → Bool} {l : List Vr} (hl : l.Pairwise lt) {i k : Nat} {b : Vr} (hik : i ≤ k) (hkl : k < l.length) (hb : l[i]? = some b) (hm : ∀ t c, i ≤ t → t ≤ k → l[t]? = some c → g c = true) {x : Vr} (h : inB [(b, l[k + 1]?)] x = true) : lastB g x false l = true := by
  obtain ⟨h1, h2⟩ := seg_in.mp h
  obtain ⟨j, c, z1, z2, z3, z4, z5⟩ := seg_find _ rfl hik hkl hb h1 h2
  rw [lastB_idx g x false hl z3 z4 z5]
  exact hm j c z1 z2 z3
theorem seg_cover {g : Vr → Bool} {l : List Vr} (hl : l.Pairwise lt) {x : Vr} (h : lastB g x false l = true) : ∃ j b, l[j]? = some b ∧ g b = true ∧ inB [(b, l[j + 1]?)] x = true := by
  rcases lastB_true g x false hl h with ⟨z, _⟩ | ⟨j, b, z1, z2, z3, z4⟩
  · cases z
  · exact ⟨j, b, z1, z4, seg_in.mpr ⟨z2, z3⟩⟩
theorem seg_ok {B : Int} {l : List Vr} (hl : l.Pairwise lt) (hv : ∀ x ∈ l, Ver B x) {i k : Nat} {b : Vr} (hik : i ≤ k) (hb : l[i]? = some b) : RgOK B [(b, l[k + 1]?)] := by
  cases e : l[k + 1]? with
  | none => exact prs_ok (l := [b]) (List.pairwise_singleton _ _) (fun x hx => by rw [List.mem_singleton.mp hx]; exact hv b (List.mem_of_getElem? hb))
  | some c =>
    have hlt : lt b c := by
      obtain ⟨h1, e1⟩ := List.getElem?_eq_some_iff.mp hb
      obtain ⟨h2, e2⟩ := List.getElem?_eq_some_iff.mp e
      have := List.pairwise_iff_getElem.mp hl i (k + 1) h1 h2 (by omega)
      rw [e1, e2] at this
      exact this
    refine prs_ok (l := [b, c]) (List.pairwise_cons.mpr ⟨fun y hy => by rw [List.mem_singleton.mp hy]; exact hlt, List.pairwise_singleton _ _⟩) (fun x hx => ?_)
    simp only [List.mem_cons, List.not_mem_nil, or_false] at hx
    rcases hx with rfl | rfl
    · exact hv _ (List.mem_of_getElem? hb)
    · exact hv _ (List.mem_of_getElem? e)
theorem seg_len (b : Vr) (o : Option Vr) : (flat [(b, o)]).length ≤ 2 := by
  cases o <;> simp [flat]
theorem made_in {g : Vr → Bool} {l : List Vr} (hl : l.Pairwise lt) (x : Vr) : inB (prs (turns g false l)) x = lastB g x false l := by
  rw [prs_par (hl.sublist (turns_sub g false l)), turns_par g x false hl]
  cases lastB g x false l <;> rfl
theorem made_ok {B : Int} {g : Vr → Bool} {l : List Vr} (hl : l.Pairwise lt) (hv : ∀ x ∈ l, Ver B x) : RgOK B (prs (turns g false l)) :=
  prs_ok (hl.sublist (turns_sub g false l)) fun x hx => hv x ((turns_sub g false l).subset hx)
theorem lastB_neg {g : Vr → Bool} {l : List Vr} (hl : l.Pairwise lt) {a : Vr} (ha : l[0]? = some a) (x : Vr) : lastB (fun b => !g b) x false l = (le a x && !lastB g x false l) := by
  cases e : le a x with
  | false =>
    rw [lastB_no _ x false (fun c hc => by rw [ha] at hc; rw [← Option.some.inj hc]; exact e)]
    rfl
  | true =>
    have h0 : 0 < l.length := (List.getElem?_eq_some_iff.mp ha).1
    obtain ⟨j, c, _, _, z3, z4, z5⟩ := seg_find (x := x) (l := l) _ rfl (Nat.zero_le (l.length - 1)) (by omega) ha e (fun c hc => by
      have := (List.getElem?_eq_some_iff.mp hc).1
      omega)
    rw [lastB_idx _ x false hl z3 z4 z5, lastB_idx g x false hl z3 z4 z5]
    rfl
theorem lastB_first {g : Vr → Bool} {l : List Vr} (hl : l.Pairwise lt) {a : Vr} (ha : l[0]? = some a) {x : Vr} (h : lastB g x false l = true) : le a x = true := by
  cases e : le a x with
  | true => rfl
  | false =>
    rw [lastB_no g x false (fun c hc => by rw [ha] at hc; rw [← Option.some.inj hc]; exact e)] at h
    cases h
theorem cutV_mid (us : List V) {a b : Nat} (h1 : a ≤ b) (h2 : b ≤ us.length) : cutV us (some (a : Int)) (some (b : Int)) = (us.drop a).take (b - a) := by
  unfold cutV
  rw [HT.sIx_nat, HT.sIx_nat, Nat.min_eq_left (Nat.le_trans h1 h2), Nat.min_eq_left h2]
/-- the first of borders with the first version -/
theorem first_zero {B : Int} {l : List Vr} (hl : l.Pairwise lt) (hv : ∀ x ∈ l, Ver B x) (h0 : [0, 0, 0, 0, 0] ∈ l) : l[0]? = some [0, 0, 0, 0, 0] := by
  cases l with
  | nil => cases h0
  | cons a l =>
    rcases List.mem_cons.mp h0 with e | e
    · rw [e]; rfl
    · exfalso
      have h := (List.pairwise_cons.mp hl).1 _ e
      obtain ⟨a0, b, c, k, n, rfl, q⟩ := hv a (List.mem_cons.mpr (.inl rfl))
      have := (lx5 _ _ _ _ _ _ _ _ _ _).mp h
      omega
end Zj

namespace Zj
namespace Er
open PySem PySem.W PySem.Calls PyProof.Rows PySem.HandSPX PySem.Spec Builtin Builtin.ObjectAttr
/-! ### own error classes over Exception -/
abbrev exTl : List Value := [.type "Exception", .type "BaseException", .type "object"]
/-- classes of the program, behind them those above Exception -/
def upEx : List Value → Bool
  | .ref _ :: l => upEx l
  | l => l == exTl
theorem upEx_or (l : List Value) (e : upEx l = true) : (∃ c m, l = .ref c :: m ∧ upEx m = true) ∨ l = exTl := by
  cases l with
  | nil => exact .inr (beq_iff_eq.mp e)
  | cons a m => cases a <;> first | exact .inl ⟨_, _, rfl, e⟩ | exact .inr (beq_iff_eq.mp e)
theorem upEx_lets (me : Value) : ∀ l : List Value, upEx l = true → refuseLoop me "__setattr__" l = pure ()
  | [], e => absurd e (by decide)
  | a :: m, e => by
    rcases upEx_or (a :: m) e with ⟨c, k, z, h⟩ | z
    · cases z
      rw [refuseLoop_ref]
      exact upEx_lets me _ h
    · rw [z]
      exact F.store_Exception.passes me
theorem upEx_has (T : String) : ∀ l : List Value, upEx l = true → l.contains (.type T) = exTl.contains (.type T)
  | [], e => absurd e (by decide)
  | a :: m, e => by
    rcases upEx_or (a :: m) e with ⟨c, k, z, h⟩ | z
    · cases z
      rw [List.contains_cons, upEx_has T _ h]
      rfl
    · rw [z]
theorem upEx_some {l : List Value} (e : upEx l = true) : l.isEmpty = false := by
  cases l with
  | nil => cases (show false = true from e)
  | cons _ _ => rfl
section
variable {prog : Program} {wd : World} {Ar : Around} {E : Value → Shared → Prop} {R : Result → Shared → Prop} {hp : Heap} {gs : Array GenState} {dr : Drawn} {tk : Nat} {os : OsState}
/-- the first field of a fresh error of such a class -/
theorem put1 {K : Frag} {fl : Str} {ft : Tok} {v : Value} {e C : Addr} {fv : Array Value} {cl : ClassData}
    (KX : K.In hp) (he : hp.get? e = some { cls := .ref C, data := .fields fv }) (hcl : clsIn K C = some cl) (hup : upEx cl.mro = true) (hdd : cl.hasDict = true) (hno : findIn K (.ref C) fl = some none)
    (go : ∀ h2 tk2 dx, (∀ a o, a ≠ e → hp.get? a = some o → h2.get? a = some o) → hp.objs.size ≤ dx → dx ≠ e → h2.get? e = some { cls := .ref C, dict := some dx, data := .fields fv } →
      h2.Ns1 dx (fun y => if y = fl then some v else none) → R (.ok (.ret .none)) ⟨h2, gs, dr, tk2, os⟩) :
    codeAny (model prog wd) Ar (.call (.builtin "object.__setattr__") ⟨[.ref e, .str fl ft, v], []⟩) R ⟨hp, gs, dr, tk, os⟩ := by
  have at_e : InstAt hp e { cls := .ref C, data := .fields fv } C none := ⟨he, rfl, rfl, trivial⟩
  have sf := F.store_object
  have hasO : cl.mro.contains (.type "object") = true := (upEx_has "object" _ hup).trans (by decide +kernel)
  have far : e ≠ hp.objs.size := Nat.ne_of_lt (Heap.lt_size he)
  have isO : Looks (model prog wd) hp (isInstance (.ref e) (.type "object")) true := at_e.type.andThen (looks_mroIn KX (by
    unfold mroIn
    rw [hcl, Option.bind_some, if_neg (by rw [upEx_some hup]; decide), hasO]))
  refine codeAny_call_builtin sf.slot.plain sf.entry (@check_slot (model prog wd) _ _ ⟨hp, gs, dr, tk, os⟩ "object.__setattr__" "object" "__setattr__" (.ref e) [.str fl ft, v] [] _ sf.kind sf.split isO (sf.args (.ref e) (.str fl ft) v) ?_)
  have lm : Looks (model prog wd) hp (mroOf (.ref C)) cl.mro := (looks_clsIn KX hcl).andThen .now
  have lt0 : Looks (model prog wd) hp (storeTaker? none) none := .now
  have lc : Looks (model prog wd) hp (classData C) cl := looks_clsIn KX hcl
  rw [osa_eq, refuse_eq]
  refine wpAny_bind (wpAny_bind (at_e.type.at (wpAny_bind (lm.at ?_))))
  rw [upEx_lets _ _ hup]
  refine wpAny_pure (wpAny_bind (at_e.type.at (wpAny_bind ((looks_findIn KX hno).at (wpAny_bind (lt0.at ?_))))))
  show wpAny _ _ (storeInOwnDict (.ref e) (.ref C) (.str fl ft) fl v false) _ _ _
  obtain ⟨c1, c2, c3, c4, c5, c6, c7, c8, c9, c10, c11⟩ := cl
  dsimp only at hdd
  subst hdd
  unfold storeInOwnDict ownDictForStores
  repeat (first | with_reducible refine store_in_new ?_ ?_ | with_reducible refine wpAny_loadPart_at he ?_ | with_reducible refine lc.at ?_ | wp_step)
  · exact ⟨_, #[], _, (Heap.get?_update_ne _ _ _ _ far.symm).trans (Heap.get?_push_at rfl rfl), rfl, fun z hz => absurd hz (by simp), fun _ => rfl⟩
  · intro h2 tk2 hn hb
    have e1 : (hp.push { cls := .type "dict", data := .dict #[] }).get? e = some { cls := .ref C, data := .fields fv } := Heap.get?_push_of_some _ he
    refine go h2 tk2 hp.objs.size (fun a o ha ho => ?_) (Nat.le_refl _) far.symm ?_ hn
    · exact (hb.2 a (Nat.ne_of_lt (Heap.lt_size ho))).trans ((Heap.get?_update_ne _ _ _ _ ha).trans (Heap.get?_push_of_some _ ho))
    · exact (hb.2 e far).trans (Heap.get?_update_self _ e1 rfl)
end
theorem one_sz (v : Value) : [v].length ≤ sizeLine := by show 1 ≤ sizeLine; decide
/-! #### with the field thing -/
def argsthing (p1 p2 : Pos) : Arguments := { posonlyargs := [], args := [{ arg := "self", annotation := none, pos := p1 }, { arg := "thing", annotation := none, pos := p2 }], vararg := none, kwonlyargs := [], kw_defaults := [], kwarg := none, defaults := [] }
def bodything (q1 q2 q3 q4 : Pos) : List Stmt := [.Assign [.Attribute (.Name "self" q1) "thing" q2] (.Name "thing" q3) q4]
def scopething : Scope := { kind := .function, names := [(PySem.Str.ofString "self", .local), (PySem.Str.ofString "thing", .local)], isGenerator := false, isCoroutine := false, more := [] }
/-- what the written part says of the class x at C, and of its __init__, at fI -/
structure Onething (K : Frag) (mg : Str → Option Value) (x qn : Str) (C fI : Addr) : Prop where
  gC : mg x = some (.ref C)
  cls : ∃ nm q N bs bm sn sub ab col dd k0 k1 k2 k3 k5, K.lookup C = some (excClassObj nm q C N bs bm true sn sub ab col dd k0 k1 k2 k3 k5 "Exception.__new__") ∧ upEx bm = true
  sa : findIn K (.ref C) "__setattr__" = some (some (.builtin "object.__setattr__"))
  xf : L2.XfC K C
  noN : findIn K (.ref C) "thing" = some none
  iC : findIn K (.ref C) "__init__" = some (some (.ref fI))
  tI : typeIn K (.ref fI) = some (.type "function")
  kC : keepIn K (.ref C) = true
  tyC : typeIn K (.ref C) = some (.type "type")
  te : exmOne K (.ref C) (.ref C) = some true
  fn : ∃ (oc : Value) (od : Option Addr) (doc pm : Value) (an : Option Addr) (cdv ct : Value) (osl : Array (Option Value)) (p1 p2 q1 q2 q3 q4 : Pos),
    K.lookup fI = some ⟨oc, od, .func (fnOf "__init__" qn (argsthing p1 p2) (bodything q1 q2 q3 q4) scopething .none .none doc pm an cdv ct), osl⟩ ∧ codeIn K cdv qn = true
/-- a made one: e, its dict d -/
structure Madething (h h2 : Heap) (e C d : Addr) (v : Value) : Prop where
  keep : ∀ a o, h.get? a = some o → h2.get? a = some o
  new : h.objs.size ≤ e
  obj : ∃ oe vs, h2.get? e = some oe ∧ oe.cls = .ref C ∧ oe.dict = some d ∧ oe.data = .fields vs ∧ vs[1]? = some .none
  dnew : h.objs.size ≤ d
  dne : d ≠ e
  ns : h2.Ns1 d (fun y => if y = "thing" then some v else none)
section
variable {prog : Program} {wd : World} {Ar : Around} {E : Value → Shared → Prop} {R : Result → Shared → Prop} {s : Shared} {K : Frag} {mg : Str → Option Value} {C fI : Addr} {x qn : Str}
theorem local_thing {M : Model} {sc : Scope} {L a : Addr} {cd : Value} {m : Str → Option Value} {y : Str} {pos : Pos} {v : Value} {Q : Value → Shared → Prop} (hn : s.heap.Ns L m) (hv : m y = some v) (h : Q v s)
    (hk : sc.kind = .function) (hl : (envOfC qn sc L a cd).kindOf y = some .local) (hd : (y == ("__debug__" : Str)) = false) : wpAny M Ar (eval (.Name y pos) (envOfC qn sc L a cd)) Q E s := wpAny_Name (wpAny_loadName_local hk hl hn hv h) hd
theorem init_thing (T : Onething K mg x qn C fI) {e t0 : Addr} {v : Value} (KX : K.In s.heap) (hlim : s.heap.NoLimit) (he : s.heap.get? e = some (excO C t0)) (hroom : Ar.depth < recursionLimit)
    (go : ∀ h2 tk dx, (∀ a o, a ≠ e → s.heap.get? a = some o → h2.get? a = some o) → s.heap.objs.size ≤ dx → dx ≠ e → h2.get? e = some { cls := .ref C, dict := some dx, data := .fields #[.ref t0, .none, .none, .none, .bool false, .none] } → h2.Ns1 dx (fun y => if y = "thing" then some v else none) → R (.ok (.ret .none)) { s with heap := h2, toks := tk }) :
    codeAny (model prog wd) Ar (.call (.ref fI) ⟨[.ref e, v], []⟩) R s := by
  obtain ⟨oc, od, doc, pm, an, cdv, ct, osl, p1, p2, q1, q2, q3, q4, ho, hcd⟩ := T.fn
  obtain ⟨nm, q, N, bs, bm, sn, sub, ab, col, dd, k0, k1, k2, k3, k5, hC, hbm⟩ := T.cls
  have hcl : clsIn K C = some { name := nm, bases := bs, mro := .ref C :: bm, ns := N, qualname := q, hasDict := true, slotNames := sn, subclasses := sub, abstract := ab, collection := col, hasDel := false } := by unfold clsIn; rw [hC] <;> rfl
  refine Att.call_fn (binds := [("self", .ref e), ("thing", v)]) KX hlim ho hcd hroom (BindsTo.of_eq (by first | rfl | with_unfolding_all rfl)) (by first | rfl | decide | with_unfolding_all rfl) (fun s2 IC => ?_) rfl rfl rfl
  obtain ⟨h2, tk2, rfl⟩ := IC.toInCall.same
  have kp : ∀ a o, s.heap.get? a = some o → h2.get? a = some o := IC.toInCall.keep
  have hn := IC.toInCall.ns
  show wpAny _ _ (execs _ _) _ _ _
  refine wpAny_execs_cons (plainObj_wpAny_Assign_Attribute ?_)
  refine local_thing (v := v) hn (by first | rfl | with_unfolding_all rfl | kernel_rfl) (local_thing (v := .ref e) hn (by first | rfl | with_unfolding_all rfl | kernel_rfl) ?_ (by rfl) (by rfl) (by decide)) (by rfl) (by rfl) (by decide)
  refine set_plain (KX.keeps kp) (ox := excO C t0) (od := none) ⟨kp _ _ he, rfl, rfl, trivial⟩ T.sa ?_
  refine put1 (KX.keeps kp) (kp _ _ he) hcl (show upEx (.ref C :: bm) = true from hbm) rfl T.noN (fun h3 tk3 dx k3 dn dne hx hns => ?_)
  show wpAny _ _ (execs _ _) _ _ _
  have z : s.heap.objs.size < h2.objs.size := hn.lt
  exact wpAny_execs_nil (go h3 tk3 dx (fun a o ha ho => k3 a o ha (kp a o ho)) (Nat.le_of_lt (Nat.lt_of_lt_of_le z dn)) dne hx hns)
theorem made_thing (T : Onething K mg x qn C fI) {v : Value} (KX : K.In s.heap) (hlim : s.heap.NoLimit) (hroom : Ar.depth + 1 < recursionLimit)
    (go : ∀ h2 tk e d, Madething s.heap h2 e C d v → R (.ok (.ret (.ref e))) { s with heap := h2, toks := tk }) : codeAny (model prog wd) Ar (.call (.ref C) ⟨[v], []⟩) R s := by
  obtain ⟨nm, q, N, bs, bm, sn, sub, ab, col, dd, k0, k1, k2, k3, k5, hC, hbm⟩ := T.cls
  obtain ⟨hp, gs, dr, tk, os⟩ := s
  have kp : ∀ a o, hp.get? a = some o → ((hp.push (kdv_tup [v])).push (excO C hp.objs.size)).get? a = some o := fun a o z => Heap.get?_push_of_some _ (Heap.get?_push_of_some _ z)
  have he : ((hp.push (kdv_tup [v])).push (excO C hp.objs.size)).get? (hp.objs.size + 1) = some (excO C hp.objs.size) := by heap_get
  refine call_own F.excBase_Exception (fun T => upEx_has T bm hbm) (KX _ _ hC) (looks_findIn KX T.iC) (fun self => bind_fn KX self T.tI) (one_sz v) ?_
  refine init_thing (s := ⟨(hp.push (kdv_tup [v])).push (excO C hp.objs.size), gs, dr, tk, os⟩) T (KX.keeps kp) (hlim.keeps kp) he ?_ fun h2 tk2 dx k2 dn dne hx hns => ?_
  · show Ar.depth + 1 < recursionLimit
    exact hroom
  · have old : ∀ a o, hp.get? a = some o → h2.get? a = some o := fun a o z => k2 a o (Nat.ne_of_lt (Nat.lt_succ_of_lt (Heap.lt_size z))) (kp a o z)
    have big : hp.objs.size + 1 + 1 ≤ dx := by
      first
        | (simpa only [Heap.size_push] using dn)
        | exact dn
        | (have y := dn; rw [Heap.size_push, Heap.size_push] at y; exact y)
    exact ⟨rfl, go h2 tk2 (hp.objs.size + 1) dx ⟨old, Nat.le_succ _, ⟨_, _, hx, rfl, rfl, rfl, rfl⟩, Nat.le_trans (Nat.le_trans (Nat.le_succ _) (Nat.le_succ _)) big, dne, hns⟩⟩
end
/-! #### with the field at -/
def argsat (p1 p2 : Pos) : Arguments := { posonlyargs := [], args := [{ arg := "self", annotation := none, pos := p1 }, { arg := "at", annotation := none, pos := p2 }], vararg := none, kwonlyargs := [], kw_defaults := [], kwarg := none, defaults := [] }
def bodyat (q1 q2 q3 q4 : Pos) : List Stmt := [.Assign [.Attribute (.Name "self" q1) "at" q2] (.Name "at" q3) q4]
def scopeat : Scope := { kind := .function, names := [(PySem.Str.ofString "self", .local), (PySem.Str.ofString "at", .local)], isGenerator := false, isCoroutine := false, more := [] }
/-- what the written part says of the class x at C, and of its __init__, at fI -/
structure Oneat (K : Frag) (mg : Str → Option Value) (x qn : Str) (C fI : Addr) : Prop where
  gC : mg x = some (.ref C)
  cls : ∃ nm q N bs bm sn sub ab col dd k0 k1 k2 k3 k5, K.lookup C = some (excClassObj nm q C N bs bm true sn sub ab col dd k0 k1 k2 k3 k5 "Exception.__new__") ∧ upEx bm = true
  sa : findIn K (.ref C) "__setattr__" = some (some (.builtin "object.__setattr__"))
  xf : L2.XfC K C
  noN : findIn K (.ref C) "at" = some none
  iC : findIn K (.ref C) "__init__" = some (some (.ref fI))
  tI : typeIn K (.ref fI) = some (.type "function")
  kC : keepIn K (.ref C) = true
  tyC : typeIn K (.ref C) = some (.type "type")
  te : exmOne K (.ref C) (.ref C) = some true
  fn : ∃ (oc : Value) (od : Option Addr) (doc pm : Value) (an : Option Addr) (cdv ct : Value) (osl : Array (Option Value)) (p1 p2 q1 q2 q3 q4 : Pos),
    K.lookup fI = some ⟨oc, od, .func (fnOf "__init__" qn (argsat p1 p2) (bodyat q1 q2 q3 q4) scopeat .none .none doc pm an cdv ct), osl⟩ ∧ codeIn K cdv qn = true
/-- a made one: e, its dict d -/
structure Madeat (h h2 : Heap) (e C d : Addr) (v : Value) : Prop where
  keep : ∀ a o, h.get? a = some o → h2.get? a = some o
  new : h.objs.size ≤ e
  obj : ∃ oe vs, h2.get? e = some oe ∧ oe.cls = .ref C ∧ oe.dict = some d ∧ oe.data = .fields vs ∧ vs[1]? = some .none
  dnew : h.objs.size ≤ d
  dne : d ≠ e
  ns : h2.Ns1 d (fun y => if y = "at" then some v else none)
section
variable {prog : Program} {wd : World} {Ar : Around} {E : Value → Shared → Prop} {R : Result → Shared → Prop} {s : Shared} {K : Frag} {mg : Str → Option Value} {C fI : Addr} {x qn : Str}
theorem local_at {M : Model} {sc : Scope} {L a : Addr} {cd : Value} {m : Str → Option Value} {y : Str} {pos : Pos} {v : Value} {Q : Value → Shared → Prop} (hn : s.heap.Ns L m) (hv : m y = some v) (h : Q v s)
    (hk : sc.kind = .function) (hl : (envOfC qn sc L a cd).kindOf y = some .local) (hd : (y == ("__debug__" : Str)) = false) : wpAny M Ar (eval (.Name y pos) (envOfC qn sc L a cd)) Q E s := wpAny_Name (wpAny_loadName_local hk hl hn hv h) hd
theorem init_at (T : Oneat K mg x qn C fI) {e t0 : Addr} {v : Value} (KX : K.In s.heap) (hlim : s.heap.NoLimit) (he : s.heap.get? e = some (excO C t0)) (hroom : Ar.depth < recursionLimit)
    (go : ∀ h2 tk dx, (∀ a o, a ≠ e → s.heap.get? a = some o → h2.get? a = some o) → s.heap.objs.size ≤ dx → dx ≠ e → h2.get? e = some { cls := .ref C, dict := some dx, data := .fields #[.ref t0, .none, .none, .none, .bool false, .none] } → h2.Ns1 dx (fun y => if y = "at" then some v else none) → R (.ok (.ret .none)) { s with heap := h2, toks := tk }) :
    codeAny (model prog wd) Ar (.call (.ref fI) ⟨[.ref e, v], []⟩) R s := by
  obtain ⟨oc, od, doc, pm, an, cdv, ct, osl, p1, p2, q1, q2, q3, q4, ho, hcd⟩ := T.fn
  obtain ⟨nm, q, N, bs, bm, sn, sub, ab, col, dd, k0, k1, k2, k3, k5, hC, hbm⟩ := T.cls
  have hcl : clsIn K C = some { name := nm, bases := bs, mro := .ref C :: bm, ns := N, qualname := q, hasDict := true, slotNames := sn, subclasses := sub, abstract := ab, collection := col, hasDel := false } := by unfold clsIn; rw [hC] <;> rfl
  refine Att.call_fn (binds := [("self", .ref e), ("at", v)]) KX hlim ho hcd hroom (BindsTo.of_eq (by first | rfl | with_unfolding_all rfl)) (by first | rfl | decide | with_unfolding_all rfl) (fun s2 IC => ?_) rfl rfl rfl
  obtain ⟨h2, tk2, rfl⟩ := IC.toInCall.same
  have kp : ∀ a o, s.heap.get? a = some o → h2.get? a = some o := IC.toInCall.keep
  have hn := IC.toInCall.ns
  show wpAny _ _ (execs _ _) _ _ _
  refine wpAny_execs_cons (plainObj_wpAny_Assign_Attribute ?_)
  refine local_at (v := v) hn (by first | rfl | with_unfolding_all rfl | kernel_rfl) (local_at (v := .ref e) hn (by first | rfl | with_unfolding_all rfl | kernel_rfl) ?_ (by rfl) (by rfl) (by decide)) (by rfl) (by rfl) (by decide)
  refine set_plain (KX.keeps kp) (ox := excO C t0) (od := none) ⟨kp _ _ he, rfl, rfl, trivial⟩ T.sa ?_
  refine put1 (KX.keeps kp) (kp _ _ he) hcl (show upEx (.ref C :: bm) = true from hbm) rfl T.noN (fun h3 tk3 dx k3 dn dne hx hns => ?_)
  show wpAny _ _ (execs _ _) _ _ _
  have z : s.heap.objs.size < h2.objs.size := hn.lt
  exact wpAny_execs_nil (go h3 tk3 dx (fun a o ha ho => k3 a o ha (kp a o ho)) (Nat.le_of_lt (Nat.lt_of_lt_of_le z dn)) dne hx hns)
theorem made_at (T : Oneat K mg x qn C fI) {v : Value} (KX : K.In s.heap) (hlim : s.heap.NoLimit) (hroom : Ar.depth + 1 < recursionLimit)
    (go : ∀ h2 tk e d, Madeat s.heap h2 e C d v → R (.ok (.ret (.ref e))) { s with heap := h2, toks := tk }) : codeAny (model prog wd) Ar (.call (.ref C) ⟨[v], []⟩) R s := by
  obtain ⟨nm, q, N, bs, bm, sn, sub, ab, col, dd, k0, k1, k2, k3, k5, hC, hbm⟩ := T.cls
  obtain ⟨hp, gs, dr, tk, os⟩ := s
  have kp : ∀ a o, hp.get? a = some o → ((hp.push (kdv_tup [v])).push (excO C hp.objs.size)).get? a = some o := fun a o z => Heap.get?_push_of_some _ (Heap.get?_push_of_some _ z)
  have he : ((hp.push (kdv_tup [v])).push (excO C hp.objs.size)).get? (hp.objs.size + 1) = some (excO C hp.objs.size) := by heap_get
  refine call_own F.excBase_Exception (fun T => upEx_has T bm hbm) (KX _ _ hC) (looks_findIn KX T.iC) (fun self => bind_fn KX self T.tI) (one_sz v) ?_
  refine init_at (s := ⟨(hp.push (kdv_tup [v])).push (excO C hp.objs.size), gs, dr, tk, os⟩) T (KX.keeps kp) (hlim.keeps kp) he ?_ fun h2 tk2 dx k2 dn dne hx hns => ?_
  · show Ar.depth + 1 < recursionLimit
    exact hroom
  · have old : ∀ a o, hp.get? a = some o → h2.get? a = some o := fun a o z => k2 a o (Nat.ne_of_lt (Nat.lt_succ_of_lt (Heap.lt_size z))) (kp a o z)
    have big : hp.objs.size + 1 + 1 ≤ dx := by
      first
        | (simpa only [Heap.size_push] using dn)
        | exact dn
        | (have y := dn; rw [Heap.size_push, Heap.size_push] at y; exact y)
    exact ⟨rfl, go h2 tk2 (hp.objs.size + 1) dx ⟨old, Nat.le_succ _, ⟨_, _, hx, rfl, rfl, rfl, rfl⟩, Nat.le_trans (Nat.le_trans (Nat.le_succ _) (Nat.le_succ _)) big, dne, hns⟩⟩
end
end Er
end Zj
namespace Zj
open PySem PySem.Spec PyProof.Rows L2
/-! #### thing: made and raised in a def -/
theorem rel_thing {v : V} {v' : Value} (r : RelV v v') (y : Str) : RelO (List.lookup y [(("thing" : Str), v)]) (if y = "thing" then some v' else none) := by
  by_cases e : y = "thing"
  · subst e
    rw [if_pos rfl, show List.lookup ("thing" : Str) [(("thing" : Str), v)] = some v by simp [List.lookup]]
    exact r
  · rw [if_neg e, show List.lookup y [(("thing" : Str), v)] = none by simp [List.lookup, show (y == ("thing" : Str)) = false by simpa using e]]
    trivial
section
variable {X : Cx} {C fI : Addr} {x qn : Str}
/-- x(e) -/
def tMkthing (C : Addr) (ta : TA) : L2.St → Hp → XK → Prop := fun σ H Q => ta σ H fun vs H1 => ∃ v, vs = [v] ∧ ∀ d, H1 d = none → Q (.ref C) (some d) (upd H1 d (.xd [(("thing" : Str), v)]))
theorem pmk_thing {a : Expr} {ta : TA} {p pos : Pos} {k : Nat} (T : Er.Onething X.K X.mg x qn C fI) (hr : Room k X.A) (ha : PA X [a] ta) (hg : Gl X x) (hdb : (x == ("__debug__" : Str)) = false := by decide)
    (he : starEach (a :: []) X.env = (false, eval a X.env) :: starEach [] X.env := by rfl) (hpl : (backTo pos (starEach [] X.env)).any (·.1) = false := by rfl) : PMk X (.Call (.Name x p) [a] [] pos) (tMkthing C ta) := by
  intro pins s σ H Q I h
  refine wpAny_Call_Name_kw (ld_glob I hg T.gC ?_ hdb)
  refine PySem.W.callWith_K (h₀ := X.base) I.ok.mod.kin T.kC (thn (ha.run pos pins s σ H _ I h) fun us s1 hh => ?_) he hpl
  obtain ⟨vs, H1, I1, r1, v, ev, q1⟩ := hh
  subst ev
  refine ⟨I1.kIn, ?_⟩
  cases r1 with
  | cons rv rn =>
    rename_i v' us'
    cases rn
    show wpAny _ _ (call (.ref C) [v']) _ _ _
    have hlim := I1.nolimit
    obtain ⟨hp, g, dr, tk, os⟩ := s1
    refine wpAny_call (Er.made_thing T I1.kIn hlim (by have := hr.dp; omega) fun h2 tk2 e d M => ?_)
    show MkP X pins σ Q (.ref e) ⟨h2, g, dr, tk2, os⟩
    obtain ⟨oe, fv, hoe, hc, hd, hdat, h1⟩ := M.obj
    have hns := M.ns
    obtain ⟨G, g1, g2⟩ := restrict h2 fun b => decide (b ≠ e)
    have gk : ∀ b, b ≠ e → G.get? b = h2.get? b := fun b hb => g1 b (decide_eq_true hb)
    have ge : G.get? e = none := g2 e (by simp)
    have old : ∀ b o, hp.get? b = some o → G.get? b = some o := fun b o z => (gk b (Nat.ne_of_lt (Nat.lt_of_lt_of_le (Heap.lt_size z) M.new))).trans (M.keep b o z)
    have ob : ObjOk X.prog X.w (upd H1 d (.xd [(("thing" : Str), v)])) G d (.xd [(("thing" : Str), v)]) := ⟨_, hns.at (fun o z => (gk d M.dne).trans z), fun y => rel_thing rv y⟩
    have J : Inv X pins σ (upd H1 d (.xd [(("thing" : Str), v)])) ⟨G, g, dr, tk2, os⟩ := I1.laid (t' := tk2) old M.dnew ob
    refine ⟨e, oe, fv, ⟨G, g, dr, tk2, os⟩, _, .ref C, some d, rfl, J, fun b o z => ?_, ge, hoe, ⟨hc, hd⟩, hdat, h1, ?_, rfl, I1.bare, raises_own T.xf.exC T.tyC, q1 d (I1.hok.fresh M.dnew)⟩
    · by_cases hb : b = e
      · have z' : G.get? b = some o := z
        rw [hb, ge] at z'
        cases z'
      · exact (gk b hb).symm.trans z
    · rw [upd_ne (Ne.symm M.dne)]
      exact I1.hok.fresh M.new
/-- raise x(e) -/
theorem ps_raise_thing {a : Expr} {ta : TA} {W : WX} {p pos pos2 : Pos} {k : Nat} (hc : X.calm = true) (T : Er.Onething X.K X.mg x qn C fI) (hr : Room k X.A) (tk : Takes X W) (ha : PA X [a] ta) (hg : Gl X x) (hdb : (x == ("__debug__" : Str)) = false := by decide)
    (he : starEach (a :: []) X.env = (false, eval a X.env) :: starEach [] X.env := by rfl) (hpl : (backTo pos (starEach [] X.env)).any (·.1) = false := by rfl) :
    PS X (.Raise (some (.Call (.Name x p) [a] [] pos)) none pos2) (fun _ σ H => tMkthing C ta σ H fun cls d H' => W cls d σ H') := ps_raise hc tk (pmk_thing T hr ha hg hdb he hpl)
end
/-! #### at: made and raised in a def -/
theorem rel_at {v : V} {v' : Value} (r : RelV v v') (y : Str) : RelO (List.lookup y [(("at" : Str), v)]) (if y = "at" then some v' else none) := by
  by_cases e : y = "at"
  · subst e
    rw [if_pos rfl, show List.lookup ("at" : Str) [(("at" : Str), v)] = some v by simp [List.lookup]]
    exact r
  · rw [if_neg e, show List.lookup y [(("at" : Str), v)] = none by simp [List.lookup, show (y == ("at" : Str)) = false by simpa using e]]
    trivial
section
variable {X : Cx} {C fI : Addr} {x qn : Str}
/-- x(e) -/
def tMkat (C : Addr) (ta : TA) : L2.St → Hp → XK → Prop := fun σ H Q => ta σ H fun vs H1 => ∃ v, vs = [v] ∧ ∀ d, H1 d = none → Q (.ref C) (some d) (upd H1 d (.xd [(("at" : Str), v)]))
theorem pmk_at {a : Expr} {ta : TA} {p pos : Pos} {k : Nat} (T : Er.Oneat X.K X.mg x qn C fI) (hr : Room k X.A) (ha : PA X [a] ta) (hg : Gl X x) (hdb : (x == ("__debug__" : Str)) = false := by decide)
    (he : starEach (a :: []) X.env = (false, eval a X.env) :: starEach [] X.env := by rfl) (hpl : (backTo pos (starEach [] X.env)).any (·.1) = false := by rfl) : PMk X (.Call (.Name x p) [a] [] pos) (tMkat C ta) := by
  intro pins s σ H Q I h
  refine wpAny_Call_Name_kw (ld_glob I hg T.gC ?_ hdb)
  refine PySem.W.callWith_K (h₀ := X.base) I.ok.mod.kin T.kC (thn (ha.run pos pins s σ H _ I h) fun us s1 hh => ?_) he hpl
  obtain ⟨vs, H1, I1, r1, v, ev, q1⟩ := hh
  subst ev
  refine ⟨I1.kIn, ?_⟩
  cases r1 with
  | cons rv rn =>
    rename_i v' us'
    cases rn
    show wpAny _ _ (call (.ref C) [v']) _ _ _
    have hlim := I1.nolimit
    obtain ⟨hp, g, dr, tk, os⟩ := s1
    refine wpAny_call (Er.made_at T I1.kIn hlim (by have := hr.dp; omega) fun h2 tk2 e d M => ?_)
    show MkP X pins σ Q (.ref e) ⟨h2, g, dr, tk2, os⟩
    obtain ⟨oe, fv, hoe, hc, hd, hdat, h1⟩ := M.obj
    have hns := M.ns
    obtain ⟨G, g1, g2⟩ := restrict h2 fun b => decide (b ≠ e)
    have gk : ∀ b, b ≠ e → G.get? b = h2.get? b := fun b hb => g1 b (decide_eq_true hb)
    have ge : G.get? e = none := g2 e (by simp)
    have old : ∀ b o, hp.get? b = some o → G.get? b = some o := fun b o z => (gk b (Nat.ne_of_lt (Nat.lt_of_lt_of_le (Heap.lt_size z) M.new))).trans (M.keep b o z)
    have ob : ObjOk X.prog X.w (upd H1 d (.xd [(("at" : Str), v)])) G d (.xd [(("at" : Str), v)]) := ⟨_, hns.at (fun o z => (gk d M.dne).trans z), fun y => rel_at rv y⟩
    have J : Inv X pins σ (upd H1 d (.xd [(("at" : Str), v)])) ⟨G, g, dr, tk2, os⟩ := I1.laid (t' := tk2) old M.dnew ob
    refine ⟨e, oe, fv, ⟨G, g, dr, tk2, os⟩, _, .ref C, some d, rfl, J, fun b o z => ?_, ge, hoe, ⟨hc, hd⟩, hdat, h1, ?_, rfl, I1.bare, raises_own T.xf.exC T.tyC, q1 d (I1.hok.fresh M.dnew)⟩
    · by_cases hb : b = e
      · have z' : G.get? b = some o := z
        rw [hb, ge] at z'
        cases z'
      · exact (gk b hb).symm.trans z
    · rw [upd_ne (Ne.symm M.dne)]
      exact I1.hok.fresh M.new
/-- raise x(e) -/
theorem ps_raise_at {a : Expr} {ta : TA} {W : WX} {p pos pos2 : Pos} {k : Nat} (hc : X.calm = true) (T : Er.Oneat X.K X.mg x qn C fI) (hr : Room k X.A) (tk : Takes X W) (ha : PA X [a] ta) (hg : Gl X x) (hdb : (x == ("__debug__" : Str)) = false := by decide)
    (he : starEach (a :: []) X.env = (false, eval a X.env) :: starEach [] X.env := by rfl) (hpl : (backTo pos (starEach [] X.env)).any (·.1) = false := by rfl) :
    PS X (.Raise (some (.Call (.Name x p) [a] [] pos)) none pos2) (fun _ σ H => tMkat C ta σ H fun cls d H' => W cls d σ H') := ps_raise hc tk (pmk_at T hr ha hg hdb he hpl)
end
end Zj

namespace Zj
open PySem PySem.Spec PyProof.Rows L2
/-! ### texts by their signs -/
abbrev Tx (l : List Nat) : Str := ⟨l.toArray⟩
theorem tx_len (l : List Nat) : (Tx l).length = l.length := by show l.toArray.size = _; simp
theorem tx_list (l : List Nat) : (Tx l).cps.toList = l := by simp
theorem tx_of (z : Str) : z = Tx z.cps.toList := by cases z; simp
/-- w stands in t from i on -/
def isAt (t w : List Nat) (i : Nat) : Bool := (t.drop i).take w.length == w
theorem starts (t w : List Nat) {i : Nat} (hi : i ≤ t.length) : Txt.startswith3 (Tx t) (Tx w) (i : Int) = isAt t w i := by
  have e : PySem.fromIndex (Tx t).length (i : Int) = i := by
    unfold PySem.fromIndex
    rw [if_neg (by omega)]
    omega
  unfold Txt.startswith3
  rw [e, PySem.StrLaws.subAt_eq, tx_len, tx_len, tx_list, tx_list]
  unfold isAt
  by_cases h : i + w.length ≤ t.length
  · rw [decide_eq_true h, Bool.true_and]
  · rw [decide_eq_false h, Bool.false_and]
    symm
    rw [beq_eq_false_iff_ne]
    intro q
    have := congrArg List.length q
    rw [List.length_take, List.length_drop] at this
    omega
theorem isAt_le {t w : List Nat} {i : Nat} (h : isAt t w i = true) (hi : i ≤ t.length) : i + w.length ≤ t.length := by
  have := congrArg List.length (beq_iff_eq.mp h)
  rw [List.length_take, List.length_drop] at this
  omega
theorem isAt_one {t : List Nat} {c i : Nat} : isAt t [c] i = true ↔ t[i]? = some c := by
  unfold isAt
  rw [beq_iff_eq]
  constructor
  · intro h
    have h2 := congrArg (fun l => l[0]?) h
    simp only [List.length_singleton] at h2
    rw [List.getElem?_take_of_lt (by decide), List.getElem?_drop] at h2
    simpa using h2
  · intro h
    obtain ⟨h1, h2⟩ := List.getElem?_eq_some_iff.mp h
    rw [List.drop_eq_getElem_cons h1, h2]
    rfl
/-- figures -/
def dg (c : Nat) : Bool := decide (48 ≤ c) && decide (c ≤ 57)
/-- where the figures from i on end -/
def figs (t : List Nat) (i : Nat) : Nat := i + ((t.drop i).takeWhile dg).length
theorem figs_ge (t : List Nat) (i : Nat) : i ≤ figs t i := Nat.le_add_right _ _
theorem takeWhile_len (l : List Nat) : (l.takeWhile dg).length ≤ l.length := by
  induction l with
  | nil => exact Nat.le_refl _
  | cons a l ih =>
    rw [List.takeWhile_cons]
    cases dg a with
    | true => simp only [if_true, List.length_cons]; omega
    | false => simp
theorem figs_le {t : List Nat} {i : Nat} (h : i ≤ t.length) : figs t i ≤ t.length := by
  have := takeWhile_len (t.drop i)
  rw [List.length_drop] at this
  unfold figs
  omega
theorem figs_step {t : List Nat} {i c : Nat} (h : t[i]? = some c) (hd : dg c = true) : figs t i = figs t (i + 1) := by
  obtain ⟨h1, h2⟩ := List.getElem?_eq_some_iff.mp h
  unfold figs
  rw [List.drop_eq_getElem_cons h1, h2, List.takeWhile_cons, hd]
  simp only [if_true, List.length_cons]
  omega
theorem figs_stop {t : List Nat} {i : Nat} (h : ∀ c, t[i]? = some c → dg c = false) : figs t i = i := by
  unfold figs
  by_cases h1 : i < t.length
  · rw [List.drop_eq_getElem_cons h1, List.takeWhile_cons, h _ (List.getElem?_eq_getElem h1)]
    simp
  · rw [List.drop_of_length_le (by omega)]
    simp
/-- a number as it is read: where it ends, its worth -/
def numAt (t : List Nat) (i : Nat) : Option (Nat × Nat) :=
  if t[i]? = some 48 then some (i + 1, 0) else if figs t i = i then none else some (figs t i, PySem.NumText.digitsVal ((t.drop i).take (figs t i - i)))
theorem pe_globS {X : Cx} {x : Str} {z : Str} {pos : Pos} (hg : Gl X x) (h : ∃ t, X.mg x = some (.str z t)) (hd : (x == ("__debug__" : Str)) = false := by decide) : PE X (.Name x pos) (tC (.str z)) := by
  obtain ⟨t, h⟩ := h
  exact pe_glob hg h ⟨t, rfl⟩ hd
/-- the defs in a class -/
def cbody : Stmt → List Stmt
  | .ClassDef (body := b) .. => b
  | _ => []
/-! ### the reader's object -/
structure RdC (K : PySem.W.Frag) (mg : Str → Option Value) (C CB : Addr) (qB : Str) (fB : Addr) : Prop where
  bt : Er.Oneat K mg "BadText" qB CB fB
  gR : mg "Reader" = some (.ref C)
  cl : Cls K C
  nl : NoAttr K C "line"
  na : NoAttr K C "at"
abbrev rdF (t : List Nat) (i : Nat) : List (Str × V) := [(("line" : Str), .str (Tx t)), (("at" : Str), .int (i : Int))]
theorem nLA : ¬ (("at" : Str) = ("line" : Str)) := by decide +kernel
theorem rdF_line (t : List Nat) (i : Nat) : (rdF t i).lookup ("line" : Str) = some (.str (Tx t)) := by simp [rdF, List.lookup]
theorem rdF_at (t : List Nat) (i : Nat) : (rdF t i).lookup ("at" : Str) = some (.int (i : Int)) := by
  have e : (("at" : Str) == ("line" : Str)) = false := by decide +kernel
  simp only [rdF, List.lookup, e]
  simp
theorem rdF_put (t : List Nat) (i j : Nat) : putF ("at" : Str) (.int (j : Int)) (rdF t i) = rdF t j := by simp [rdF, putF, nLA, Ne.symm nLA]
/-- all but p stays -/
def Bp (p : Addr) (H H' : Hp) : Prop := ∀ b, b ≠ p → H' b = H b
theorem Bp.refl {p : Addr} (H : Hp) : Bp p H H := fun _ _ => rfl
theorem Bp.trans {p : Addr} {H H1 H2 : Hp} (a : Bp p H H1) (b : Bp p H1 H2) : Bp p H H2 := fun x h => (b x h).trans (a x h)
theorem Bp.upd {p : Addr} {H : Hp} {o : HO} : Bp p H (upd H p o) := fun _ h => upd_ne h
/-- a for over a text's signs -/
theorem for_str {l : List Nat} {g : TG} {tb : TS} {D : Ends} {σ : L2.St} {H : Hp} (Pv : Nat → L2.St → Hp → Prop) (h0 : Pv 0 σ H)
    (hs : ∀ (i : Nat) (c : Nat) σ H, l[i]? = some c → Pv i σ H → g (.str (Tx [c])) σ H fun σ2 H2 => tb { D with nx := Pv (i + 1), ct := Pv (i + 1), bk := D.nx } σ2 H2) (hd : ∀ σ H, Pv l.length σ H → D.nx σ H) :
    ∃ W : Nat → Nat → L2.St → Hp → Prop, (∃ m, W 0 m σ H) ∧ ∀ i m σ H, W i m σ H →
      ((Its (Tx l)).stop i H ∧ D.nx σ H) ∨ ((Its (Tx l)).go i H ∧ ∃ N : L2.St → Hp → Prop, (∀ σ' H', N σ' H' → ∃ m', m' < m ∧ W (i + 1) m' σ' H') ∧ ∀ v H', (Its (Tx l)).yld i H v H' → g v σ H' fun σ2 H2 => tb { D with nx := N, ct := N, bk := D.nx } σ2 H2) := by
  have sz : (Tx l).cps.size = l.length := by simp
  refine ⟨fun i m σ H => m = l.length - i ∧ i ≤ l.length ∧ Pv i σ H, ⟨l.length, by simp, Nat.zero_le _, h0⟩, ?_⟩
  rintro i m σ H ⟨rfl, hi, p⟩
  by_cases hlt : i < l.length
  · refine .inr ⟨by show i < (Tx l).cps.size; omega, Pv (i + 1), fun σ' H' p' => ⟨l.length - (i + 1), by omega, rfl, hlt, p'⟩, fun v H' y => ?_⟩
    obtain ⟨e, c, hc, ev⟩ := y
    subst e ev
    exact hs i c σ _ (by rw [← List.getElem?_toArray]; exact hc) p
  · have e : i = l.length := by omega
    subst e
    exact .inl ⟨by show (Tx l).cps.size ≤ l.length; omega, hd σ H p⟩
/-- how far two rows of signs agree -/
def cmn : List Nat → List Nat → Nat
  | a :: s, b :: w => if a = b then cmn s w + 1 else 0
  | _, _ => 0
theorem cmn_le : ∀ s w : List Nat, cmn s w ≤ w.length
  | [], w => by cases w <;> simp [cmn]
  | a :: s, [] => by simp [cmn]
  | a :: s, b :: w => by
    have := cmn_le s w
    unfold cmn
    split <;> simp <;> omega
theorem cmn_le' : ∀ s w : List Nat, cmn s w ≤ s.length
  | [], w => by cases w <;> simp [cmn]
  | a :: s, [] => by simp [cmn]
  | a :: s, b :: w => by
    have := cmn_le' s w
    unfold cmn
    split <;> simp <;> omega
theorem cmn_step : ∀ (s w : List Nat) (j c : Nat), j ≤ cmn s w → w[j]? = some c → (s[j]? = some c → j + 1 ≤ cmn s w) ∧ (s[j]? ≠ some c → cmn s w = j)
  | [], w, j, c, h, hc => by
    have e : cmn [] w = 0 := by cases w <;> rfl
    refine ⟨fun q => by simp at q, fun _ => by omega⟩
  | a :: s, [], j, c, h, hc => by simp at hc
  | a :: s, b :: w, 0, c, h, hc => by
    have e : b = c := by simpa using hc
    subst e
    unfold cmn
    by_cases q : a = b
    · refine ⟨fun _ => by rw [if_pos q]; omega, fun n => absurd (by simp [q]) n⟩
    · refine ⟨fun n => absurd (by simpa using n) q, fun _ => by rw [if_neg q]⟩
  | a :: s, b :: w, j + 1, c, h, hc => by
    have q : a = b := by
      by_cases q : a = b
      · exact q
      · unfold cmn at h
        rw [if_neg q] at h
        omega
    have e : cmn (a :: s) (b :: w) = cmn s w + 1 := by
      show (if a = b then cmn s w + 1 else 0) = _
      rw [if_pos q]
    rw [e] at h ⊢
    have ih := cmn_step s w j c (by omega) (by simpa using hc)
    refine ⟨fun z => ?_, fun z => ?_⟩
    · have := ih.1 (by simpa using z)
      omega
    · have := ih.2 (by simpa using z)
      omega
/-- all that was stays but p -/
def Ap (p : Addr) (H H' : Hp) : Prop := ∀ b o, b ≠ p → H b = some o → H' b = some o
theorem Ap.refl {p : Addr} (H : Hp) : Ap p H H := fun _ _ _ h => h
theorem Ap.trans {p : Addr} {H H1 H2 : Hp} (a : Ap p H H1) (b : Ap p H1 H2) : Ap p H H2 := fun x o n h => b x o n (a x o n h)
theorem Bp.ap {p : Addr} {H H' : Hp} (h : Bp p H H') : Ap p H H' := fun b _ n e => (h b n).trans e
theorem Ap.new {p d : Addr} {H : Hp} {o : HO} (h : H d = none) : Ap p H (upd H d o) := fun b o' _ e => by
  have : b ≠ d := fun q => by rw [q, h] at e; cases e
  rw [upd_ne this]
  exact e
theorem rdF_none (t : List Nat) (i : Nat) {m : Str} (h1 : (m == ("line" : Str)) = false) (h2 : (m == ("at" : Str)) = false) : (rdF t i).lookup m = none := by
  simp only [rdF, List.lookup, h1, h2]
theorem isAt_drop {t : List Nat} {c i j : Nat} : isAt t [c] (i + j) = true ↔ (t.drop i)[j]? = some c := by rw [isAt_one, List.getElem?_drop]
theorem digs_eq : (Str.ofString "0123456789").cps.toList = [48, 49, 50, 51, 52, 53, 54, 55, 56, 57] := by decide +kernel
theorem digs_mem (c : Nat) : decide (c ∈ (Str.ofString "0123456789").cps.toList) = dg c := by
  rw [digs_eq]
  unfold dg
  rw [Bool.eq_iff_iff]
  simp only [decide_eq_true_eq, Bool.and_eq_true, List.mem_cons, List.not_mem_nil, or_false]
  omega
theorem cut_tx {t : List Nat} {i j : Nat} (h1 : i ≤ j) (h2 : j ≤ t.length) : cutS (Tx t) (some (i : Int)) (some (j : Int)) = Tx ((t.drop i).take (j - i)) := by
  unfold cutS
  rw [tx_list, tx_len, HT.sIx_nat, HT.sIx_nat, Nat.min_eq_left (Nat.le_trans h1 h2), Nat.min_eq_left h2]
theorem takeWhile_take (l : List Nat) : l.take (l.takeWhile dg).length = l.takeWhile dg := by
  induction l with
  | nil => rfl
  | cons a l ih =>
    rw [List.takeWhile_cons]
    cases dg a with
    | true => simp only [if_true, List.length_cons, List.take_succ_cons, ih]
    | false => simp
theorem figs_cut (t : List Nat) (i : Nat) : (t.drop i).take (figs t i - i) = (t.drop i).takeWhile dg := by
  rw [show figs t i - i = ((t.drop i).takeWhile dg).length by unfold figs; omega, takeWhile_take]
theorem figs_digits (t : List Nat) (i : Nat) : NumText.AllDigits ((t.drop i).take (figs t i - i)) := by
  rw [figs_cut]
  intro c hc
  have h : dg c = true := by
    generalize t.drop i = l at hc
    induction l with
    | nil => cases hc
    | cons a l ih =>
      rw [List.takeWhile_cons] at hc
      cases q : dg a with
      | true =>
        rw [q] at hc
        rcases List.mem_cons.mp hc with e | hc
        · rw [e, q]
        · exact ih hc
      | false => rw [q] at hc; cases hc
  unfold dg at h
  simpa using h
/-- the words of the sorts -/
def sortsL : List (List Nat) := [[97, 108, 112, 104, 97], [98, 101, 116, 97], [114, 99]]
def sortsV : List V := sortsL.map fun w => .str (Tx w)
structure SoC (K : PySem.W.Frag) (mg : Str → Option Value) (aS : Addr) : Prop where
  g : mg "SORTS" = some (.ref aS)
  s : ∀ H, SqT K H aS sortsV
theorem sorts_get {k : Nat} {x : V} (h : sortsV[k]? = some x) : ∃ c r, sortsL[k]? = some (c :: r) ∧ x = .str (Tx (c :: r)) ∧ r.length ≤ 4 ∧ sortsL.drop k = (c :: r) :: sortsL.drop (k + 1) := by
  match k, h with
  | 0, h => exact ⟨_, _, rfl, (Option.some.inj h).symm, by decide, rfl⟩
  | 1, h => exact ⟨_, _, rfl, (Option.some.inj h).symm, by decide, rfl⟩
  | 2, h => exact ⟨_, _, rfl, (Option.some.inj h).symm, by decide, rfl⟩
/-- a word as it is read: its end, or where it goes wrong -/
def wordE (t w : List Nat) (i : Nat) : Except Nat Nat := if cmn (t.drop i) w = w.length then .ok (i + w.length) else .error (i + cmn (t.drop i) w)
def sortG (t : List Nat) (i : Nat) : Nat → List (List Nat) → Except Nat (Nat × Nat)
  | _, [] => .error i
  | k, (c :: r) :: ws => if isAt t [c] i then (match wordE t r (i + 1) with | .ok j => .ok (k, j) | .error j => .error j) else sortG t i (k + 1) ws
  | _, [] :: _ => .error i
def sortE (t : List Nat) (i : Nat) : Except Nat (Nat × Nat) := sortG t i 0 sortsL
def numE (t : List Nat) (i : Nat) : Except Nat (Nat × Nat) := match numAt t i with | some x => .ok x | none => .error i
/-- a version as it is read -/
def verE (t : List Nat) (i : Nat) : Except Nat (List Int × Nat) := do
  let (i1, a) ← numE t i
  let i2 ← wordE t [46] i1
  let (i3, b) ← numE t i2
  let i4 ← wordE t [46] i3
  let (i5, c) ← numE t i4
  if isAt t [45] i5 then
    let (s, i6) ← sortE t (i5 + 1)
    let i7 ← wordE t [46] i6
    let (i8, n) ← numE t i7
    .ok ([(a : Int), (b : Int), (c : Int), (s : Int), (n : Int)], i8)
  else .ok ([(a : Int), (b : Int), (c : Int), 3, 0], i5)
theorem numAt_le {t : List Nat} {i j n : Nat} (hi : i ≤ t.length) (h : numAt t i = some (j, n)) : j ≤ t.length := by
  unfold numAt at h
  split at h
  · rename_i q
    have := (List.getElem?_eq_some_iff.mp q).1
    have e : i + 1 = j := by injection h with h; injection h
    omega
  · split at h
    · cases h
    · have e : figs t i = j := by injection h with h; injection h
      have := figs_le hi
      omega
theorem cmn_in {t w : List Nat} {i : Nat} (h : cmn (t.drop i) w = w.length) (hi : i ≤ t.length) : i + w.length ≤ t.length := by
  have := cmn_le' (t.drop i) w
  rw [List.length_drop] at this
  omega
theorem cut_tail (c : Nat) (r : List Nat) : cutS (Tx (c :: r)) (some 1) none = Tx r := by
  unfold cutS
  rw [tx_list, tx_len, HT.sIx_none, show (some (1 : Int)) = some ((1 : Nat) : Int) from rfl, HT.sIx_nat, List.length_cons, Nat.min_eq_left (by omega)]
  show (⟨(List.take (r.length + 1 - 1) r).toArray⟩ : Str) = _
  rw [Nat.add_sub_cancel, List.take_length]
theorem num_ok {t : List Nat} {i : Nat} {x : Nat × Nat} (h : numAt t i = some x) : numE t i = .ok x := by unfold numE; rw [h]
theorem num_err {t : List Nat} {i : Nat} (h : numAt t i = none) : numE t i = .error i := by unfold numE; rw [h]
theorem word_ok {t w : List Nat} {i : Nat} (h : cmn (t.drop i) w = w.length) : wordE t w i = .ok (i + w.length) := if_pos h
theorem word_err {t w : List Nat} {i : Nat} (h : cmn (t.drop i) w < w.length) : wordE t w i = .error (i + cmn (t.drop i) w) := if_neg (Nat.ne_of_lt h)
/-! ### one sign of a text, as the law cuts it -/
theorem cut_one {t : List Nat} {i : Nat} (h : i ≤ t.length) : cutS (Tx t) (some (i : Int)) (some ((i : Int) + 1)) = Tx ((t.drop i).take 1) := by
  unfold cutS
  rw [tx_list, tx_len, show ((i : Int) + 1) = ((i + 1 : Nat) : Int) by omega, HT.sIx_nat, HT.sIx_nat, Nat.min_eq_left h]
  by_cases q : i < t.length
  · rw [Nat.min_eq_left (by omega), show i + 1 - i = 1 by omega]
  · rw [List.drop_of_length_le (by omega)]
    simp
theorem sgn_read {t : List Nat} {σ : L2.St} {j : Nat} {Hx : Hp} {Q' : VK} (h0 : σ[0]? = some (some (.str (Tx t)))) (h1 : σ[1]? = some (some (.int (j : Int)))) (hj : j ≤ t.length) (ht : t.length ≤ 600) (q : Q' (.str (Tx ((t.drop j).take 1))) Hx) :
    tSl rSlS (tVar 0) (tPart (tVar 1)) (tPart (tOp (rI0 fun i j => V.int (i + j)) (tVar 1) (tC (V.int 1)))) σ Hx Q' :=
  ⟨_, h0, _, h1, _, rfl, _, h1, _, _, rfl, rfl, _, rfl, _, rfl, by rw [tx_len]; exact Nat.le_of_lt (small1000 (by omega)), by rw [cut_one hj]; exact q⟩
theorem tx_inj {l m : List Nat} (h : Tx l = Tx m) : l = m := by
  have := congrArg (fun z => z.cps.toList) h
  simpa using this
theorem sgn_is {t : List Nat} {j c : Nat} : (V.str (Tx ((t.drop j).take 1)) = V.str (Tx [c])) ↔ t[j]? = some c := by
  rw [← isAt_one]
  unfold isAt
  rw [beq_iff_eq]
  constructor
  · intro h
    injection h with h
    exact tx_inj h
  · intro h
    exact congrArg (fun z => V.str (Tx z)) h
theorem sgn_some {t : List Nat} {j c : Nat} (h : t[j]? = some c) : (t.drop j).take 1 = [c] := by
  have := isAt_one.mpr h
  exact beq_iff_eq.mp this
theorem sgn_none {t : List Nat} {j : Nat} (h : t[j]? = none) : (t.drop j).take 1 = [] := by
  rw [List.drop_of_length_le (List.getElem?_eq_none_iff.mp h)]
  rfl
theorem s_dot : Str.ofString "." = Tx [46] := by decide +kernel
theorem s_dash : Str.ofString "-" = Tx [45] := by decide +kernel
theorem s_zero : Str.ofString "0" = Tx [48] := by decide +kernel
theorem s_none : Str.ofString "" = Tx [] := by decide +kernel
theorem sgn_empty {t : List Nat} {j : Nat} : (V.str (Tx ((t.drop j).take 1)) = V.str (Tx [])) ↔ t[j]? = none := by
  constructor
  · intro h
    injection h with h
    have e := tx_inj h
    cases q : t[j]? with
    | none => rfl
    | some c => rw [sgn_some q] at e; cases e
  · intro h
    rw [sgn_none h]
theorem occ_one (c : Nat) : (!(Builtin.Str.occurrences (Str.ofString "0123456789") (Tx [c]) 0 (Str.ofString "0123456789").length 1).isEmpty) = dg c := by
  rw [← digs_mem]
  exact PySem.StrLaws.found_one _ c
end Zj

namespace Zj
open PySem PySem.Spec PyProof.Rows L2
/-! ### enumerate of a tuple -/
theorem meets_enumB1 {v : Value} {o : Obj} {H : Heap → Prop} (B : Begins v o H) :
    Meets (Builtin.«enumerate.__new__» ⟨[.type "enumerate", v], []⟩) (fun _ R s => H s.heap ∧
      R (.ok (.ret (.ref (s.heap.push o).objs.size))) { s with heap := (s.heap.push o).push { cls := .type "enumerate", data := .fields #[.none, .bool false, .ref s.heap.objs.size, rawInt 0, .none, .none] } }) :=
  .of_wp fun prog w A R s h => by
    obtain ⟨hp, g, d, tk, os⟩ := s; obtain ⟨h1, h⟩ := h
    have hsub := sub_enumerate
    have q1 : ∀ {A' : Around} {E : Value → Shared → Prop} {Q : Value → Shared → Prop}, Q (.ref hp.objs.size) ⟨hp.push o, g, d, tk, os⟩ → wpAny (model prog w) A' (pyIter v) Q E ⟨hp, g, d, tk, os⟩ :=
      fun q => B.iter prog w _ _ ⟨hp, g, d, tk, os⟩ _ h1 q
    wp_walk using q1
    refine wpAny_stack_any fun st => wpAny_pure ?_
    split
    · rename_i c _ _ _ _ _
      cases (c == Value.type "enumerate")
      · wp_walk using q1
        exact ⟨_, rfl, h⟩
      · wp_walk using q1
        exact ⟨_, rfl, h⟩
    · wp_walk using q1
      exact ⟨_, rfl, h⟩
section
variable {prog : Program} {w : World} {A : Around} {E : Value → Shared → Prop} {s : Shared}
theorem enum_begins1 {v : Value} {o : Obj} {H : Heap → Prop} {Q : Value → Shared → Prop} (B : Begins v o H) (h1 : H s.heap)
    (h : ∀ h', IsEnum h' (s.heap.objs.size + 1) s.heap.objs.size 0 .none → h'.get? s.heap.objs.size = some o → h'.objs.size = s.heap.objs.size + 2 →
      (∀ b o, s.heap.get? b = some o → h'.get? b = some o) → Q (.ref (s.heap.objs.size + 1)) { s with heap := h' }) :
    wpAny (model prog w) A (call (.type "enumerate") [v]) Q E s := by
  refine callType_new F.called_enumerate (by decide) (F.typeCall_enumerate_1 _) (F.newCall_enumerate_1 _) (fun obj => F.args_object_init_2 obj _) F.entry_enumerate_new
    (meets_enumB1 B) ⟨h1, ?_⟩
  have hz : (s.heap.push o).objs.size = s.heap.objs.size + 1 := Heap.size_push ..
  show _ ∧ _
  rw [hz]
  have he : IsEnum ((s.heap.push o).push { cls := .type "enumerate", data := .fields #[.none, .bool false, .ref s.heap.objs.size, rawInt 0, .none, .none] }) (s.heap.objs.size + 1) s.heap.objs.size 0 .none := by
    have := Heap.get?_push_size (s.heap.push o) (o := { cls := .type "enumerate", data := .fields #[.none, .bool false, .ref s.heap.objs.size, rawInt 0, .none, .none] }) rfl
    rw [hz] at this; exact this
  refine ⟨⟨_, he, rfl⟩, h _ he (Heap.get?_push_of_some _ (Heap.get?_push_size _ B.free)) (by rw [Heap.size_push, hz]) fun b o x => Heap.get?_push_of_some _ (Heap.get?_push_of_some _ x)⟩
end
/-- the tuple at a, each item in a new pair -/
def IteT (K : PySem.W.Frag) (a : Addr) : It :=
  ⟨fun i H => ∃ (xs : List V) (x : V), SqT K H a xs ∧ xs[i]? = some x, fun i H v H' => ∃ T x, v = .ref T ∧ H T = none ∧ H' = upd H T (.tup [.int (i : Nat), x]) ∧ ∀ xs, SqT K H a xs → xs[i]? = some x, fun i H => ∃ xs : List V, SqT K H a xs ∧ xs.length = i⟩
theorem turn_enumT {P : Program} {w : World} {K : PySem.W.Frag} {elts : List Expr} {kk : Nat} {tpos : Pos} (a e it : Addr) :
    Turn P w K (.Tuple elts kk tpos) (IteT K a) [e, it] e (fun i h => (∃ old, IsEnum h e it ((i : Nat) : Int) old) ∧ h.IsTupleIter it a i ∧ e ≠ it ∧ a ≠ it ∧ e ≠ a) where
  mem := by simp
  obj := fun i h st b hb => by
    obtain ⟨⟨old, he⟩, ⟨o, ho, hc, hd⟩, _⟩ := st
    have e' : b = e ∨ b = it := by simpa using hb
    rcases e' with z | z
    · rw [z]; exact ⟨_, he, fun v q => nomatch q⟩
    · rw [z]; exact ⟨o, ho, fun v q => by rw [hd] at q; cases q⟩
  keep := fun i h h' st k => let ⟨⟨old, he⟩, hi, hne⟩ := st; ⟨⟨old, k e (by simp) _ he⟩, hi.at fun o q => k it (by simp) o q, hne⟩
  item := by
    intro X hP hw hK hc i pins s σ H E I hf st hg
    subst hP hw hK
    obtain ⟨⟨old, he⟩, hit, hne, hai, hea⟩ := st
    obtain ⟨xs, x, hq, hx⟩ := hg
    obtain ⟨its, rv, p, hz⟩ := I.tuple hq
    obtain ⟨u, hu, ru⟩ := rv.get hx
    have hel : e < s.heap.objs.size := Heap.lt_size he
    have hil : it < s.heap.objs.size := by obtain ⟨_, q, _⟩ := hit; exact Heap.lt_size q
    have hlt : i < its.toArray.size := by
      have := (List.getElem?_eq_some_iff.mp hu).1
      simpa using this
    refine wpAny_pyNext_enum_itemD (Draws.tuple (A := X.A.in1) (show X.A.in1.handled = none from I.ok.hd hc) it a hai its.toArray) he ⟨hit, p⟩ hlt hne (by simp [hne, hea]) fun x2 h' tk hP ho hst' hT hsz hk => ?_
    obtain ⟨hit', hT'⟩ := hst'
    have ex2 : x2 = u := by
      have : its.toArray[i]? = some u := by simpa using hu
      rw [this] at hP
      exact (Option.some.inj hP).symm
    subst ex2
    refine ⟨_, rfl, wpAny_letOwnedTupleGo_enum (s := { s with heap := h', toks := tk + 1 }) ho fun h'' he' sb => ?_⟩
    have hT2 : h''.get? s.heap.objs.size = some { cls := .type "tuple", data := .seq #[.int i tk, x2] } := (sb.2 _ (Nat.ne_of_gt hel)).trans hT
    have new : ObjOk X.prog X.w (upd H s.heap.objs.size (.tup [.int (i : Nat), x])) h'' s.heap.objs.size (.tup [.int (i : Nat), x]) :=
      ⟨by show 2 ≤ sizeLine; decide, [.int i tk, x2], .cons ⟨_, rfl⟩ (.cons ru .nil), ⟨_, hT2, rfl, _, rfl⟩⟩
    have I1 : Inv X pins σ (upd H s.heap.objs.size (.tup [.int (i : Nat), x])) { s with heap := h'', toks := tk + 1 } :=
      I.turnedNew (ch := [e, it]) (fun b ob hb q => (sb.2 b (fun z => hb (by simp [z]))).trans (hk b ob (fun z => hb (by simp [z])) (fun z => hb (by simp [z])) q)) hf (Nat.le_refl _) new
    refine ⟨.ref s.heap.objs.size, _, I1, rfl, ⟨_, x, rfl, I.hok.fresh (Nat.le_refl _), rfl, fun ys hy => by rw [I.tuple_inj hy hq]; exact hx⟩, ⟨⟨x2, ?_⟩, hit'.at fun o q => (sb.2 it (Ne.symm hne)).trans q, hne, hai, hea⟩, fun b hb => ?_⟩
    · have e1 : ((i + 1 : Nat) : Int) = (i : Int) + 1 := by omega
      rw [e1]; exact he'
    · have hb' : b < s.heap.objs.size := by
        have e' : b = e ∨ b = it := by simpa using hb
        rcases e' with z | z
        · rw [z]; exact hel
        · rw [z]; exact hil
      rw [upd_ne (Nat.ne_of_lt hb')]
      exact (hf b hb).1
  done := by
    intro X hP hw hK hc i pins s σ H E I hf st hg
    subst hP hw hK
    obtain ⟨⟨old, he⟩, hit, hne, hai, hea⟩ := st
    obtain ⟨xs, hq, hx⟩ := hg
    obtain ⟨its, rv, p, hz⟩ := I.tuple hq
    obtain ⟨f0, f1, f2, f3, f4, f5⟩ := hf it (by simp)
    have hl := rv.length
    have hn : i = its.toArray.size := by simp; omega
    subst hn
    exact wpAny_pyNext_enum_endD (Draws.tuple (A := X.A.in1) (show X.A.in1.handled = none from I.ok.hd hc) it a hai its.toArray) he ⟨hit, p⟩ fun h' eb => ⟨rfl, I.turned (t' := s.toks) (fun b o hb q => eb b o hb q) f0 f1 f3 f4 f5⟩
  self := fun A i s Q E st h => let ⟨⟨_, he⟩, _⟩ := st; wpAny_pyIter_enum he h
def iEnumT (K : PySem.W.Frag) (ta : TA) : TI := fun σ H R => ta σ H fun vs H1 => ∃ a xs, vs = [.ref a] ∧ SqT K H1 a xs ∧ R (IteT K a) H1
theorem pi_enumT {X : Cx} {e : Expr} {ta : TA} {p pos tpos : Pos} {elts : List Expr} {kk : Nat} (hg : Gl X "enumerate") (hm : X.mg "enumerate" = none) (ha : PA X [e] ta) (hs : starEach [e] X.env = [(false, eval e X.env)] := by rfl) :
    PI X (.Tuple elts kk tpos) (.Call (.Name "enumerate" p) [e] [] pos) (iEnumT X.K ta) := by
  refine ⟨fun pins s σ H R I h => ?_⟩
  refine Call_ (ld_blt I hg hm boot_enumerate (PyProof.Rows.callWith_type1 (thn (ha.run pos pins s σ H _ I h) fun us s1 ⟨vs, H1, I1, r1, q1⟩ => ?_) hs rfl))
  obtain ⟨a, xs, ex, hq, q⟩ := q1
  subst ex
  cases r1 with
  | cons r rr =>
    cases rr
    cases r
    obtain ⟨its, rv, p', hz⟩ := I1.tuple hq
    obtain ⟨oa, hoa, _⟩ := id p'
    have hal : a < s1.heap.objs.size := Heap.lt_size hoa
    refine enum_begins1 (begins_tuple a its.toArray) p' fun h' he hit hsz hk => wpAny_pyIter_enum he ?_
    have I2 : Inv X pins σ H1 { s1 with heap := h' } := I1.kept (t' := s1.toks) hk
    refine ⟨s1.heap.objs.size + 1, [s1.heap.objs.size + 1, s1.heap.objs.size], _, _, H1, rfl, I2, turn_enumT a (s1.heap.objs.size + 1) s1.heap.objs.size, ⟨⟨.none, he⟩, ⟨_, hit, rfl, rfl⟩, Nat.succ_ne_self _, Nat.ne_of_lt hal, Nat.ne_of_gt (Nat.lt_succ_of_lt hal)⟩, fun b hb => ?_, q⟩
    have e' : b = s1.heap.objs.size + 1 ∨ b = s1.heap.objs.size := by simpa using hb
    have hle : s1.heap.objs.size ≤ b := by
      rcases e' with z | z
      · rw [z]; exact Nat.le_add_right _ _
      · rw [z]; exact Nat.le_refl _
    exact I1.fpOk hle (I1.hok.fresh hle)
/-- a for over enumerate of a tuple -/
theorem for_enumT {K : PySem.W.Frag} {a : Addr} {xs : List V} {g : TG} {tb : TS} {D : Ends} {σ : L2.St} {H : Hp} (Pv : Nat → L2.St → Hp → Prop) (h0 : Pv 0 σ H) (hq : ∀ i σ H, Pv i σ H → SqT K H a xs)
    (hs : ∀ (i : Nat) (x : V) (T : Addr) (σ : L2.St) (H : Hp), xs[i]? = some x → Pv i σ H → H T = none → g (.ref T) σ (upd H T (.tup [.int (i : Nat), x])) fun σ2 H2 => tb { D with nx := Pv (i + 1), ct := Pv (i + 1), bk := D.nx } σ2 H2) (hd : ∀ σ H, Pv xs.length σ H → D.nx σ H) :
    ∃ W : Nat → Nat → L2.St → Hp → Prop, (∃ m, W 0 m σ H) ∧ ∀ i m σ H, W i m σ H →
      ((IteT K a).stop i H ∧ D.nx σ H) ∨ ((IteT K a).go i H ∧ ∃ N : L2.St → Hp → Prop, (∀ σ' H', N σ' H' → ∃ m', m' < m ∧ W (i + 1) m' σ' H') ∧ ∀ v H', (IteT K a).yld i H v H' → g v σ H' fun σ2 H2 => tb { D with nx := N, ct := N, bk := D.nx } σ2 H2) := by
  refine ⟨fun i m σ H => m = xs.length - i ∧ i ≤ xs.length ∧ Pv i σ H, ⟨xs.length, rfl, Nat.zero_le _, h0⟩, ?_⟩
  rintro i m σ H ⟨rfl, hi, p⟩
  have qx := hq i σ H p
  by_cases hlt : i < xs.length
  · have hx : xs[i]? = some xs[i] := List.getElem?_eq_getElem hlt
    refine .inr ⟨⟨xs, _, qx, hx⟩, Pv (i + 1), fun σ' H' p' => ⟨xs.length - (i + 1), by omega, rfl, hlt, p'⟩, fun v H' y => ?_⟩
    obtain ⟨T, x', rfl, hT, rfl, f1⟩ := y
    exact hs i x' T σ H (f1 xs qx) p hT
  · have e : i = xs.length := by omega
    subst e
    exact .inl ⟨⟨xs, qx, rfl⟩, hd σ H p⟩
end Zj

namespace Zj
open PySem L2
/-- reading(..): a def held in a slot is called, its errors pass -/
def tCallVX (i : Nat) (f : Addr) (sp : Sp) (E : XK) (t : TA) : TE := fun σ H Q => σ[i]? = some (some (.ref f)) ∧ t σ H fun vs H1 => sp vs H1 Q E
theorem pe_callVX {X : Cx} {CY : CXT} {k i : Nat} {f : Addr} {fd : FuncData} {ps : List Str} {sp : Sp} {E : XK} {x : Str} {p pos : Pos} {e : Expr} {es : List Expr} {t : TA} (F : FnOk X.prog X.w X.K X.mg X.base CY k f fd ps sp) (hr : Room k X.A) (hN : X.N[i]? = some x) (hv : Vis X.env.scope x)
    (hk : PySem.W.keepIn X.K (.ref f) = true) (hb : Binds X.K fd ps []) (hx : Passes CY X E) (ha : PA X (e :: es) t) (hd : (x == ("__debug__" : Str)) = false := by decide) (hcd : (x == ("__classdict__" : Str)) = false := by decide)
    (he : starEach (e :: es) X.env = (false, eval e X.env) :: starEach es X.env := by rfl) (hpl : (backTo pos (starEach es X.env)).any (·.1) = false := by rfl) : PE X (.Call (.Name x p) (e :: es) [] pos) (tCallVX i f sp E t) := by
  refine ⟨fun pins s σ H Q I ⟨hs, ht⟩ => ?_⟩
  have pv' := (pe_var (X := X) (pos := p) hN hv hd hcd).run pins s σ H (fun v H1 => v = .ref f ∧ H1 = H) I ⟨.ref f, hs, rfl, rfl⟩
  refine wpAny_Call_Name_kw (thn pv' fun u s1 ⟨v, H1, I1, r1, ev, eH⟩ => ?_)
  subst ev
  rw [eH] at I1
  obtain rfl : u = Value.ref f := r1
  refine PySem.W.callWith_K (h₀ := X.base) I1.ok.mod.kin hk (thn (ha.run pos pins s1 σ H _ I1 ht) fun us s2 ⟨vs, H2, I2, r, q⟩ => ⟨I2.kIn, ?_⟩) he hpl
  exact run_fn F hr hb .nil hx I2 r (by rw [List.append_nil]; exact q)
end Zj
namespace Zj
open PySem L2
def top (i : Nat) : Stmt := PySem.Challenge.pw_versionjudge_k02_whole_texts_of_versions.main.body.getD i (.Pass ⟨0, 0, 0, 0⟩)
structure Blt (K : PySem.W.Frag) (mg : Str → Option Value) : Prop where
  isinstance : mg "isinstance" = none
  tuple : mg "tuple" = none
  bool : mg "bool" = none
  all : mg "all" = none
  list : mg "list" = none
  repr : mg "repr" = none
  enumerate : mg "enumerate" = none
  int : mg "int" = none
  max : mg "max" = none
  len : mg "len" = none
  range : mg "range" = none
  str : mg "str" = none
  g_WHOLE : ∃ t, mg "WHOLE" = some (.int 3 t)
  g_DIGITS : ∃ t, mg "DIGITS" = some (.str "0123456789" t)

abbrev sReaderComes : Stmt := (cbody (top 9)).getD 1 (.Pass ⟨0, 0, 0, 0⟩)
abbrev nReaderComes : List Str := ["self", "word"]
abbrev pReaderComes : List Str := ["self", "word"]
theorem scReaderComes : FnScope nReaderComes pReaderComes (defScope sReaderComes) := ⟨rfl, rfl, rfl, by decide +kernel, rfl, by decide +kernel, by decide +kernel⟩
abbrev sReaderTake : Stmt := (cbody (top 9)).getD 2 (.Pass ⟨0, 0, 0, 0⟩)
abbrev nReaderTake : List Str := ["self", "word"]
abbrev pReaderTake : List Str := ["self", "word"]
theorem scReaderTake : FnScope nReaderTake pReaderTake (defScope sReaderTake) := ⟨rfl, rfl, rfl, by decide +kernel, rfl, by decide +kernel, by decide +kernel⟩
/-- comes: whether it stands there -/
def spReaderComes (K : PySem.W.Frag) (CR : Addr) : Sp := fun vs H Q _ => ∃ (p dx : Addr) (t w : List Nat) (i : Nat), vs = [.ref p, .str (Tx w)] ∧ H p = some (.ins CR dx (rdF t i)) ∧ i ≤ t.length ∧ t.length ≤ 600 ∧ w.length ≤ 600 ∧ Q (.bl (isAt t w i)) H
/-- take: what stands there or not -/
def spReaderTake (K : PySem.W.Frag) (CR : Addr) : Sp := fun vs H Q _ => ∃ (p dx : Addr) (t w : List Nat) (i : Nat), vs = [.ref p, .str (Tx w)] ∧ H p = some (.ins CR dx (rdF t i)) ∧ i ≤ t.length ∧ t.length ≤ 600 ∧ w.length ≤ 600 ∧
  (isAt t w i = false → Q (.bl false) H) ∧ (isAt t w i = true → ∀ H', Bp p H H' → H' p = some (.ins CR dx (rdF t (i + w.length))) → Q (.bl true) H')
section
variable {P : Program} {w : World} {K : PySem.W.Frag} {mg : Str → Option Value} {base : Heap} {CR CB fB : Addr} {qB : Str}
theorem ok_ReaderComes {f : Addr} {fd : FuncData} (Z : Blt K mg) (RT : RdC K mg CR CB qB fB) (D : L2.Fun K "comes" "Reader.comes" sReaderComes f fd) : FnOk P w K mg base CX0 1 f fd pReaderComes (spReaderComes K CR) := by
  refine D.ok scReaderComes (fun vs H Q E h => ?_) (fun cdv A outer s0 H vs Q E hr h => ?_)
  · obtain ⟨p, dx, t, w, i, rfl, _⟩ := h
    rfl
  have hu := hu_of hr
  obtain ⟨p, dx, t, wd, i, rfl, hp, hi, ht, hw, kQ⟩ := h
  refine ⟨_, (pss_one (ps_ret (pe_bm PySem.F.plainAttrs_str PySem.F.slot_str_startswith PySem.F.type_str_startswith mt_startswith3 (pe_fld (pv 0) rfl) (pa_cons (pv 1) (pa_cons (pe_fld (pv 0) rfl) pa_nil))))), ?_⟩
  refine ⟨_, rfl, p, CR, dx, _, _, rfl, hp, RT.cl, RT.nl, rdF_line t i, rfl, _, rfl, _, rfl, p, CR, dx, _, _, rfl, hp, RT.cl, RT.na, rdF_at t i, _, _, _, rfl, rfl, ?_⟩
  rw [starts t wd hi]
  exact kQ
theorem ok_ReaderTake {f : Addr} {fd : FuncData} {fReaderComes : Addr} {fdReaderComes : FuncData} (Z : Blt K mg) (RT : RdC K mg CR CB qB fB) (D : L2.Fun K "take" "Reader.take" sReaderTake f fd) (MReaderComes : Meth K CR "comes" fReaderComes) (BReaderComes : Binds K fdReaderComes pReaderComes []) (GReaderComes : FnOk P w K mg base CX0 1 fReaderComes fdReaderComes pReaderComes (spReaderComes K CR)) : FnOk P w K mg base CX0 2 f fd pReaderTake (spReaderTake K CR) := by
  refine D.ok scReaderTake (fun vs H Q E h => ?_) (fun cdv A outer s0 H vs Q E hr h => ?_)
  · obtain ⟨p, dx, t, w, i, rfl, _⟩ := h
    rfl
  have hu := hu_of hr
  obtain ⟨p, dx, t, wd, i, rfl, hp, hi, ht, hw, kF, kT⟩ := h
  refine ⟨_, (pss_cons (ps_if (pt_not (pt_val (pe_meth (pv 0) RT.cl MReaderComes GReaderComes (hr.mono (by decide)) BReaderComes .nil pass0 (pa_cons (pv 1) pa_nil))))
    (pss_one (ps_ret pe_bl))
    pss_nil)
    (pss_cons (ps_fldaug (pv 0) (pe_callB call_len_str (by rfl) Z.len (by decide +kernel) (pa_cons (pv 1) pa_nil)) in_add)
    (pss_one (ps_ret pe_bl)))), ?_⟩
  refine ⟨_, rfl, p, dx, _, rfl, hp, rdF_none _ _ (by decide +kernel) (by decide +kernel), _, rfl, p, dx, t, wd, i, rfl, hp, hi, ht, hw, ?_⟩
  refine ⟨_, rfl, ?_⟩
  cases q : isAt t wd i with
  | false => exact iteT (kF q)
  | true =>
    refine iteF ?_
    refine ⟨_, rfl, p, CR, dx, _, _, rfl, hp, RT.cl, RT.na, rdF_at t i, _, rfl, _, rfl, by rw [tx_len]; exact Nat.le_of_lt (small1000 (by omega)), _, _, rfl, rfl, _, _, hp, by show 2 < 1000; decide, ?_⟩
    rw [tx_len, show ((i : Int) + (wd.length : Int)) = ((i + wd.length : Nat) : Int) by omega, rdF_put]
    exact kT q _ Bp.upd upd_same
end
abbrev sReaderExpect : Stmt := (cbody (top 9)).getD 3 (.Pass ⟨0, 0, 0, 0⟩)
abbrev nReaderExpect : List Str := ["self", "word", "letter"]
abbrev pReaderExpect : List Str := ["self", "word"]
theorem scReaderExpect : FnScope nReaderExpect pReaderExpect (defScope sReaderExpect) := ⟨rfl, rfl, rfl, by decide +kernel, rfl, by decide +kernel, by decide +kernel⟩
/-- expect: the word, else where it goes wrong -/
def spReaderExpect (K : PySem.W.Frag) (CR CB : Addr) : Sp := fun vs H Q E => ∃ (p dx : Addr) (t w : List Nat) (i : Nat), vs = [.ref p, .str (Tx w)] ∧ H p = some (.ins CR dx (rdF t i)) ∧ i ≤ t.length ∧ t.length ≤ 600 ∧ w.length ≤ 600 ∧
  (cmn (t.drop i) w = w.length → ∀ H', Bp p H H' → H' p = some (.ins CR dx (rdF t (i + w.length))) → Q .non H') ∧
  (cmn (t.drop i) w < w.length → ∀ H' d, Ap p H H' → H' d = some (.xd [(("at" : Str), .int ((i + cmn (t.drop i) w : Nat) : Int))]) → E (.ref CB) (some d) H')
section
variable {P : Program} {w : World} {K : PySem.W.Frag} {mg : Str → Option Value} {base : Heap} {CR CB fB : Addr} {qB : Str}
theorem ok_ReaderExpect {f : Addr} {fd : FuncData} {fReaderTake : Addr} {fdReaderTake : FuncData} (Z : Blt K mg) (RT : RdC K mg CR CB qB fB) (D : L2.Fun K "expect" "Reader.expect" sReaderExpect f fd) (MReaderTake : Meth K CR "take" fReaderTake) (BReaderTake : Binds K fdReaderTake pReaderTake []) (GReaderTake : FnOk P w K mg base CX0 2 fReaderTake fdReaderTake pReaderTake (spReaderTake K CR)) : FnOk P w K mg base (L2.CX P w) 3 f fd pReaderExpect (spReaderExpect K CR CB) := by
  refine D.okX scReaderExpect (fun vs H Q E h => ?_) (fun cdv A outer s0 H vs Q E hr h => ?_)
  · obtain ⟨p, dx, t, w, i, rfl, _⟩ := h
    rfl
  have hu := hu_of hr
  obtain ⟨p, dx, t, wd, i, rfl, hp, hi, ht, hw, kQ, kE⟩ := h
  refine ⟨_, (pss_one (ps_for (passes_of rfl) rfl (pi_str (pv 1)) (pg_name (i := 2) scReaderExpect.nd rfl (Or.inl rfl))
    (pss_one (ps_if (pt_not (pt_val (pe_meth (pv 0) RT.cl MReaderTake GReaderTake (hr.mono (by decide)) BReaderTake .nil pass0 (pa_cons (pv 2) pa_nil))))
      (pss_one (ps_raise_at rfl RT.bt hr (takes_of rfl rfl rfl rfl) (pa_cons (pe_fld (pv 0) rfl) pa_nil) rfl))
      pss_nil)))), ?_⟩
  have hcl := cmn_le' (t.drop i) wd
  rw [List.length_drop] at hcl
  refine ⟨_, rfl, _, rfl, for_str (l := wd) (fun j σ H' => ∃ v2, σ = [some (.ref p), some (.str (Tx wd)), v2] ∧ j ≤ cmn (t.drop i) wd ∧ Bp p H H' ∧ H' p = some (.ins CR dx (rdF t (i + j)))) ⟨none, rfl, Nat.zero_le _, Bp.refl _, hp⟩ ?_ ?_⟩
  · rintro j c σ H' hc ⟨v2, rfl, hj, b1, e1⟩
    obtain ⟨sT, sF⟩ := cmn_step (t.drop i) wd j c hj hc
    have hjw : j < wd.length := (List.getElem?_eq_some_iff.mp hc).1
    refine ⟨_, rfl, p, dx, _, rfl, e1, rdF_none _ _ (by decide +kernel) (by decide +kernel), _, rfl, p, dx, t, [c], i + j, rfl, e1, by omega, ht, by show 1 ≤ 600; decide, fun q => ?_, fun q H2 b2 e2 => ?_⟩
    · refine ⟨_, rfl, iteT ?_⟩
      have n : (t.drop i)[j]? ≠ some c := fun z => by rw [isAt_drop.mpr z] at q; cases q
      have ej := sF n
      refine ⟨_, rfl, p, CR, dx, _, _, rfl, e1, RT.cl, RT.na, rdF_at _ _, _, rfl, fun d hd => ?_⟩
      rw [← ej]
      exact kE (by omega) _ d (b1.ap.trans (Ap.new hd)) upd_same
    · refine ⟨_, rfl, iteF ?_⟩
      exact ⟨_, rfl, sT (isAt_drop.mp q), b1.trans b2, e2⟩
  · rintro σ H' ⟨v2, rfl, hj, b1, e1⟩
    have := cmn_le (t.drop i) wd
    exact kQ (by omega) H' b1 e1
end
abbrev sReaderFinish : Stmt := (cbody (top 9)).getD 8 (.Pass ⟨0, 0, 0, 0⟩)
abbrev nReaderFinish : List Str := ["self"]
abbrev pReaderFinish : List Str := ["self"]
theorem scReaderFinish : FnScope nReaderFinish pReaderFinish (defScope sReaderFinish) := ⟨rfl, rfl, rfl, by decide +kernel, rfl, by decide +kernel, by decide +kernel⟩
abbrev sReaderInit : Stmt := (cbody (top 9)).getD 0 (.Pass ⟨0, 0, 0, 0⟩)
abbrev nReaderInit : List Str := ["self", "text"]
abbrev pReaderInit : List Str := ["self", "text"]
theorem scReaderInit : FnScope nReaderInit pReaderInit (defScope sReaderInit) := ⟨rfl, rfl, rfl, by decide +kernel, rfl, by decide +kernel, by decide +kernel⟩
abbrev sReaderNumber : Stmt := (cbody (top 9)).getD 5 (.Pass ⟨0, 0, 0, 0⟩)
abbrev nReaderNumber : List Str := ["self", "start"]
abbrev pReaderNumber : List Str := ["self"]
theorem scReaderNumber : FnScope nReaderNumber pReaderNumber (defScope sReaderNumber) := ⟨rfl, rfl, rfl, by decide +kernel, rfl, by decide +kernel, by decide +kernel⟩
def spReaderFinish (K : PySem.W.Frag) (CR CB : Addr) : Sp := fun vs H Q E => ∃ (p dx : Addr) (t : List Nat) (i : Nat), vs = [.ref p] ∧ H p = some (.ins CR dx (rdF t i)) ∧ i ≤ t.length ∧ t.length ≤ 600 ∧
  (i = t.length → Q .non H) ∧ (i < t.length → ∀ H' d, Ap p H H' → H' d = some (.xd [(("at" : Str), .int (i : Int))]) → E (.ref CB) (some d) H')
def spReaderInit (K : PySem.W.Frag) (CR : Addr) : Sp := fun vs H Q _ => ∃ (p dx : Addr) (t : List Nat), vs = [.ref p, .str (Tx t)] ∧ H p = some (.ins CR dx []) ∧ ∀ H', Bp p H H' → H' p = some (.ins CR dx (rdF t 0)) → Q .non H'
def spReaderNumber (K : PySem.W.Frag) (CR CB : Addr) : Sp := fun vs H Q E => ∃ (p dx : Addr) (t : List Nat) (i : Nat), vs = [.ref p] ∧ H p = some (.ins CR dx (rdF t i)) ∧ i ≤ t.length ∧ t.length ≤ 600 ∧
  (∀ j n, numAt t i = some (j, n) → ∀ H', Bp p H H' → H' p = some (.ins CR dx (rdF t j)) → Q (.int (n : Int)) H') ∧
  (numAt t i = none → ∀ H' d, Ap p H H' → H' d = some (.xd [(("at" : Str), .int (i : Int))]) → E (.ref CB) (some d) H')
section
variable {P : Program} {w : World} {K : PySem.W.Frag} {mg : Str → Option Value} {base : Heap} {CR CB fB : Addr} {qB : Str}
theorem ok_ReaderFinish {f : Addr} {fd : FuncData} (Z : Blt K mg) (RT : RdC K mg CR CB qB fB) (D : L2.Fun K "finish" "Reader.finish" sReaderFinish f fd) : FnOk P w K mg base (L2.CX P w) 1 f fd pReaderFinish (spReaderFinish K CR CB) := by
  refine D.okX scReaderFinish (fun vs H Q E h => ?_) (fun cdv A outer s0 H vs Q E hr h => ?_)
  · obtain ⟨p, dx, t, i, rfl, _⟩ := h
    rfl
  have hu := hu_of hr
  obtain ⟨p, dx, t, i, rfl, hp, hi, ht, kQ, kE⟩ := h
  refine ⟨_, (pss_one (ps_if (pt_cmpR op_lt (pe_fld (pv 0) rfl) (pe_callB call_len_str (by rfl) Z.len (by decide +kernel) (pa_cons (pe_fld (pv 0) rfl) pa_nil)) (nomark _))
    (pss_one (ps_raise_at rfl RT.bt hr (takes_of rfl rfl rfl rfl) (pa_cons (pe_fld (pv 0) rfl) pa_nil) rfl))
    pss_nil)), ?_⟩
  refine ⟨_, rfl, p, CR, dx, _, _, rfl, hp, RT.cl, RT.na, rdF_at t i, _, rfl, p, CR, dx, _, _, rfl, hp, RT.cl, RT.nl, rdF_line t i, _, rfl, by rw [tx_len]; exact Nat.le_of_lt (small1000 (by omega)), _, _, rfl, rfl, ?_⟩
  rw [tx_len]
  by_cases q : i < t.length
  · refine ⟨_, rfl, ?_⟩
    rw [decide_eq_true (show (i : Int) < (t.length : Int) by omega)]
    refine iteT ?_
    exact ⟨_, rfl, p, CR, dx, _, _, rfl, hp, RT.cl, RT.na, rdF_at t i, _, rfl, fun d hd => kE q _ d (Ap.new hd) upd_same⟩
  · refine ⟨_, rfl, ?_⟩
    rw [decide_eq_false (show ¬ (i : Int) < (t.length : Int) by omega)]
    exact iteF (kQ (by omega))
theorem ok_ReaderInit {f : Addr} {fd : FuncData} (Z : Blt K mg) (RT : RdC K mg CR CB qB fB) (D : L2.Fun K "__init__" "Reader.__init__" sReaderInit f fd) : FnOk P w K mg base (L2.CX P w) 1 f fd pReaderInit (spReaderInit K CR) := by
  refine D.okX scReaderInit (fun vs H Q E h => ?_) (fun cdv A outer s0 H vs Q E hr h => ?_)
  · obtain ⟨p, dx, t, rfl, _⟩ := h
    rfl
  have hu := hu_of hr
  obtain ⟨p, dx, t, rfl, hp, kQ⟩ := h
  refine ⟨_, (pss_cons (ps_if (pt_not (pt_val (pe_callB call_isi (by rfl) Z.isinstance (by decide +kernel) (pa_cons (pv 1) (pa_cons (pe_bltn (v := .ty "str") (u := Value.type "str") (by rfl) Z.str (by decide +kernel) rfl) pa_nil)))))
    (pss_one (ps_raise_at rfl RT.bt hr (takes_of rfl rfl rfl rfl) (pa_cons (pe_un un_neg pe_int) pa_nil) rfl))
    pss_nil)
    (pss_cons (ps_fld (pv 0) (pv 1) rfl)
    (pss_one (ps_fld (pv 0) pe_int rfl)))), ?_⟩
  refine ⟨_, rfl, _, _, _, _, true, rfl, .ty "str", .base (.str (Tx t)), kit_ty (by decide +kernel), true, rfl, ?_⟩
  refine iteF ?_
  refine ⟨_, rfl, _, rfl, p, CR, dx, _, rfl, hp, RT.cl, RT.nl, by show 0 < 1000; decide, ?_⟩
  refine ⟨_, rfl, p, CR, dx, _, rfl, upd_same, RT.cl, RT.na, by show 1 < 1000; decide, ?_⟩
  refine kQ _ (Bp.upd.trans Bp.upd) ?_
  rw [upd_same]
  exact congrArg (fun z => some (HO.ins CR dx z)) (by show (if ("line" : Str) = ("at" : Str) then _ else _) = _; rw [if_neg (Ne.symm nLA)]; rfl)
theorem ok_ReaderNumber {f : Addr} {fd : FuncData} {fReaderTake : Addr} {fdReaderTake : FuncData} (Z : Blt K mg) (RT : RdC K mg CR CB qB fB) (D : L2.Fun K "number" "Reader.number" sReaderNumber f fd) (MReaderTake : Meth K CR "take" fReaderTake) (BReaderTake : Binds K fdReaderTake pReaderTake []) (GReaderTake : FnOk P w K mg base CX0 2 fReaderTake fdReaderTake pReaderTake (spReaderTake K CR)) : FnOk P w K mg base (L2.CX P w) 3 f fd pReaderNumber (spReaderNumber K CR CB) := by
  refine D.okX scReaderNumber (fun vs H Q E h => ?_) (fun cdv A outer s0 H vs Q E hr h => ?_)
  · obtain ⟨p, dx, t, i, rfl, _⟩ := h
    rfl
  have hu := hu_of hr
  obtain ⟨p, dx, t, i, rfl, hp, hi, ht, kQ, kE⟩ := h
  refine ⟨_, (pss_cons (ps_set (i := 1) scReaderNumber.nd rfl (Or.inl rfl) (pe_fld (pv 0) rfl))
    (pss_cons (ps_if (pt_val (pe_meth (pv 0) RT.cl MReaderTake GReaderTake (hr.mono (by decide)) BReaderTake .nil pass0 (pa_cons pe_str pa_nil)))
    (pss_one (ps_ret pe_int))
    pss_nil)
    (pss_cons (ps_while (passes_of rfl) (PW.pt (pw_and (pt_cmpR op_lt (pe_fld (pv 0) rfl) (pe_callB call_len_str (by rfl) Z.len (by decide +kernel) (pa_cons (pe_fld (pv 0) rfl) pa_nil)) (nomark _)) (pw_and1 (pt_cmpR op_in_sign (pe_ix ix_str (pe_fld (pv 0) rfl) (pe_fld (pv 0) rfl) (fun _ _ => rfl)) (pe_globS rfl Z.g_DIGITS) (by rfl)))))
    (pss_one (ps_fldaug (pv 0) pe_int in_add)))
    (pss_cons (ps_if (pt_cmpR op_eq (pe_fld (pv 0) rfl) (pv 1) (nomark _))
    (pss_one (ps_raise_at rfl RT.bt hr (takes_of rfl rfl rfl rfl) (pa_cons (pv 1) pa_nil) rfl))
    pss_nil)
    (pss_one (ps_ret (pe_callTy call_int_str (by rfl) Z.int (by decide +kernel) (pa_cons (pe_slice sl_str (pe_fld (pv 0) rfl) (po_some (pv 1)) (po_some (pe_fld (pv 0) rfl))) pa_nil)))))))), ?_⟩
  refine ⟨_, rfl, p, CR, dx, _, _, rfl, hp, RT.cl, RT.na, rdF_at t i, ?_⟩
  refine ⟨_, rfl, p, dx, _, rfl, hp, rdF_none _ _ (by decide +kernel) (by decide +kernel), p, dx, t, [48], i, rfl, hp, hi, ht, by show 1 ≤ 600; decide, fun q => ?_, fun q H2 b2 e2 => ?_⟩
  rotate_left
  · refine ⟨_, rfl, ?_⟩
    refine iteT ?_
    exact kQ (i + 1) 0 (by unfold numAt; rw [if_pos (isAt_one.mp q)]) _ b2 e2
  have n48 : t[i]? ≠ some 48 := fun z => by rw [isAt_one.mpr z] at q; cases q
  refine ⟨_, rfl, ?_⟩
  refine iteF ?_
  refine ⟨fun m σ H' => ∃ j, m = t.length - j ∧ σ = [some (.ref p), some (.int (i : Int))] ∧ i ≤ j ∧ j ≤ t.length ∧ figs t j = figs t i ∧ Bp p H H' ∧ H' p = some (.ins CR dx (rdF t j)), ⟨_, i, rfl, rfl, Nat.le_refl _, hi, rfl, Bp.refl _, hp⟩, ?_⟩
  rintro m σ H' ⟨j, rfl, rfl, hij, hj, ef, b1, e1⟩
  refine ⟨_, rfl, p, CR, dx, _, _, rfl, e1, RT.cl, RT.na, rdF_at t j, _, rfl, p, CR, dx, _, _, rfl, e1, RT.cl, RT.nl, rdF_line t j, _, rfl, by rw [tx_len]; exact Nat.le_of_lt (small1000 (by omega)), _, _, rfl, rfl, _, rfl, ?_⟩
  by_cases hlt : j < t.length
  · rw [decide_eq_true (show (j : Int) < ((Tx t).length : Int) by rw [tx_len]; omega)]
    refine iteT ?_
    obtain ⟨c, hc⟩ : ∃ c, t[j]? = some c := ⟨_, List.getElem?_eq_getElem hlt⟩
    refine ⟨_, rfl, p, CR, dx, _, _, rfl, e1, RT.cl, RT.nl, rdF_line t j, _, rfl, p, CR, dx, _, _, rfl, e1, RT.cl, RT.na, rdF_at t j, _, _, c, rfl, rfl, by rw [tx_len]; exact Nat.le_of_lt (small1000 (by omega)), atI_nat (by rw [tx_list]; exact hc), c, _, rfl, rfl, _, rfl, ?_⟩
    rw [digs_mem]
    cases qd : dg c with
    | true =>
      refine iteT ?_
      have ef2 : figs t (j + 1) = figs t i := (figs_step hc qd).symm.trans ef
      refine ⟨fun σ' H'' => σ' = [some (.ref p), some (.int (i : Int))] ∧ Bp p H H'' ∧ H'' p = some (.ins CR dx (rdF t (j + 1))), ?_, ?_⟩
      · rintro σ' H'' ⟨rfl, b2, e2⟩
        exact ⟨_, by omega, j + 1, rfl, rfl, by omega, by omega, ef2, b2, e2⟩
      · refine ⟨_, rfl, p, CR, dx, _, _, rfl, e1, RT.cl, RT.na, rdF_at t j, _, _, rfl, rfl, _, _, e1, by show 2 < 1000; decide, rfl, b1.trans Bp.upd, ?_⟩
        rw [upd_same]
        show some (HO.ins CR dx (putF _ (.int ((j : Int) + 1)) (rdF t j))) = _
        rw [show ((j : Int) + 1) = ((j + 1 : Nat) : Int) by omega, rdF_put]
    | false =>
    refine iteF ?_
    have ej : j = figs t i := by
      rw [← ef]
      exact (figs_stop fun c' h' => by rw [hc] at h'; injection h' with h'; rw [← h', qd]).symm
    refine ⟨_, rfl, p, CR, dx, _, _, rfl, e1, RT.cl, RT.na, rdF_at t j, _, rfl, rfl, _, rfl, ?_⟩
    by_cases q0 : j = i
    · rw [decide_eq_true (show V.int (j : Int) = V.int (i : Int) by rw [q0])]
      refine iteT ?_
      exact ⟨_, rfl, _, rfl, fun d hd => kE (by unfold numAt; rw [if_neg n48, if_pos (ej.symm.trans q0)]) _ d (b1.ap.trans (Ap.new hd)) upd_same⟩
    · rw [decide_eq_false (show ¬ V.int (j : Int) = V.int (i : Int) by intro z; injection z with z; omega)]
      refine iteF ?_
      have wl : ((t.drop i).take (j - i)).length ≤ 600 := by rw [List.length_take, List.length_drop]; omega
      refine ⟨_, rfl, p, CR, dx, _, _, rfl, e1, RT.cl, RT.nl, rdF_line t j, _, rfl, _, rfl, _, rfl, p, CR, dx, _, _, rfl, e1, RT.cl, RT.na, rdF_at t j, _, rfl, _, rfl, by rw [tx_len]; exact Nat.le_of_lt (small1000 (by omega)), _, ((NumText.digitsVal ((t.drop i).take (j - i)) : Nat) : Int), rfl, ?_, ?_, ?_⟩
      · rw [cut_tx hij hj]
        have h := PySem.intText_digits (x := Tx ((t.drop i).take (j - i))) (by rw [tx_list, ej]; exact figs_digits t i) (by
          rw [tx_list]
          intro z
          have z2 := congrArg List.length z
          rw [List.length_take, List.length_drop] at z2
          simp only [List.length_nil] at z2
          omega) (by rw [tx_len]; omega)
        rw [tx_list] at h
        exact h
      · rw [cut_tx hij hj, tx_len]
        omega
      · exact kQ j _ (by unfold numAt; rw [if_neg n48, if_neg (fun z => q0 (ej.trans z)), ← ej]) H' b1 e1
  · rw [decide_eq_false (show ¬ (j : Int) < ((Tx t).length : Int) by rw [tx_len]; omega)]
    refine iteF ?_
    refine iteF ?_
    have ej : j = figs t i := by
      rw [← ef]
      exact (figs_stop fun c' h' => absurd (List.getElem?_eq_some_iff.mp h').1 hlt).symm
    refine ⟨_, rfl, p, CR, dx, _, _, rfl, e1, RT.cl, RT.na, rdF_at t j, _, rfl, rfl, _, rfl, ?_⟩
    by_cases q0 : j = i
    · rw [decide_eq_true (show V.int (j : Int) = V.int (i : Int) by rw [q0])]
      refine iteT ?_
      exact ⟨_, rfl, _, rfl, fun d hd => kE (by unfold numAt; rw [if_neg n48, if_pos (ej.symm.trans q0)]) _ d (b1.ap.trans (Ap.new hd)) upd_same⟩
    · rw [decide_eq_false (show ¬ V.int (j : Int) = V.int (i : Int) by intro z; injection z with z; omega)]
      refine iteF ?_
      have wl : ((t.drop i).take (j - i)).length ≤ 600 := by rw [List.length_take, List.length_drop]; omega
      refine ⟨_, rfl, p, CR, dx, _, _, rfl, e1, RT.cl, RT.nl, rdF_line t j, _, rfl, _, rfl, _, rfl, p, CR, dx, _, _, rfl, e1, RT.cl, RT.na, rdF_at t j, _, rfl, _, rfl, by rw [tx_len]; exact Nat.le_of_lt (small1000 (by omega)), _, ((NumText.digitsVal ((t.drop i).take (j - i)) : Nat) : Int), rfl, ?_, ?_, ?_⟩
      · rw [cut_tx hij hj]
        have h := PySem.intText_digits (x := Tx ((t.drop i).take (j - i))) (by rw [tx_list, ej]; exact figs_digits t i) (by
          rw [tx_list]
          intro z
          have z2 := congrArg List.length z
          rw [List.length_take, List.length_drop] at z2
          simp only [List.length_nil] at z2
          omega) (by rw [tx_len]; omega)
        rw [tx_list] at h
        exact h
      · rw [cut_tx hij hj, tx_len]
        omega
      · exact kQ j _ (by unfold numAt; rw [if_neg n48, if_neg (fun z => q0 (ej.trans z)), ← ej]) H' b1 e1
end


abbrev sSortFrom : Stmt := top 21
abbrev nSortFrom : List Str := ["reader", "sort", "word"]
abbrev pSortFrom : List Str := ["reader"]
theorem scSortFrom : FnScope nSortFrom pSortFrom (defScope sSortFrom) := ⟨rfl, rfl, rfl, by decide +kernel, rfl, by decide +kernel, by decide +kernel⟩
abbrev sVersionFrom : Stmt := top 20
abbrev nVersionFrom : List Str := ["reader", "a", "b", "c", "sort"]
abbrev pVersionFrom : List Str := ["reader"]
theorem scVersionFrom : FnScope nVersionFrom pVersionFrom (defScope sVersionFrom) := ⟨rfl, rfl, rfl, by decide +kernel, rfl, by decide +kernel, by decide +kernel⟩
abbrev sReadWhole : Stmt := top 10
abbrev nReadWhole : List Str := ["text", "reading", "reader", "found"]
abbrev pReadWhole : List Str := ["text", "reading"]
theorem scReadWhole : FnScope nReadWhole pReadWhole (defScope sReadWhole) := ⟨rfl, rfl, rfl, by decide +kernel, rfl, by decide +kernel, by decide +kernel⟩
abbrev sReadVersion : Stmt := top 19
abbrev nReadVersion : List Str := ["text"]
abbrev pReadVersion : List Str := ["text"]
theorem scReadVersion : FnScope nReadVersion pReadVersion (defScope sReadVersion) := ⟨rfl, rfl, rfl, by decide +kernel, rfl, by decide +kernel, by decide +kernel⟩
def spSortFrom (K : PySem.W.Frag) (CR CB : Addr) : Sp := fun vs H Q E => ∃ (p dx : Addr) (t : List Nat) (i : Nat), vs = [.ref p] ∧ H p = some (.ins CR dx (rdF t i)) ∧ i ≤ t.length ∧ t.length ≤ 600 ∧
  (∀ s j, sortE t i = .ok (s, j) → j ≤ t.length → ∀ H', Ap p H H' → H' p = some (.ins CR dx (rdF t j)) → Q (.int (s : Int)) H') ∧
  (∀ j, sortE t i = .error j → ∀ H' d, Ap p H H' → H' d = some (.xd [(("at" : Str), .int (j : Int))]) → E (.ref CB) (some d) H')
def spVersionFrom (K : PySem.W.Frag) (CR CB : Addr) : Sp := fun vs H Q E => ∃ (p dx : Addr) (t : List Nat) (i : Nat), vs = [.ref p] ∧ H p = some (.ins CR dx (rdF t i)) ∧ i ≤ t.length ∧ t.length ≤ 600 ∧
  (∀ v j, verE t i = .ok (v, j) → j ≤ t.length → ∀ H' q, Ap p H H' → H' p = some (.ins CR dx (rdF t j)) → H' q = some (.tup (v.map V.int)) → Q (.ref q) H') ∧
  (∀ j, verE t i = .error j → ∀ H' d, Ap p H H' → H' d = some (.xd [(("at" : Str), .int (j : Int))]) → E (.ref CB) (some d) H')
def readE (t : List Nat) : Except Nat (List Int) := match verE t 0 with | .ok (v, j) => if j < t.length then .error j else .ok v | .error j => .error j
def spReadWhole (K : PySem.W.Frag) (CB fV : Addr) : Sp := fun vs H Q E => ∃ (t : List Nat), vs = [.str (Tx t), .ref fV] ∧ t.length ≤ 600 ∧
  (∀ v, readE t = .ok v → ∀ H' q, Same H H' → H' q = some (.tup (v.map V.int)) → Q (.ref q) H') ∧
  (∀ j, readE t = .error j → ∀ H' d, Same H H' → H' d = some (.xd [(("at" : Str), .int (j : Int))]) → E (.ref CB) (some d) H')
def spReadVersion (K : PySem.W.Frag) (CR CB : Addr) : Sp := fun vs H Q E => ∃ (t : List Nat), vs = [.str (Tx t)] ∧ t.length ≤ 600 ∧
  (∀ v, readE t = .ok v → ∀ H' q, Same H H' → H' q = some (.tup (v.map V.int)) → Q (.ref q) H') ∧
  (∀ j, readE t = .error j → ∀ H' d, Same H H' → H' d = some (.xd [(("at" : Str), .int (j : Int))]) → E (.ref CB) (some d) H')
section
variable {P : Program} {w : World} {K : PySem.W.Frag} {mg : Str → Option Value} {base : Heap} {CR CB fB aS : Addr} {qB : Str}
theorem ok_SortFrom {f : Addr} {fd : FuncData} {fReaderExpect : Addr} {fdReaderExpect : FuncData} {fReaderTake : Addr} {fdReaderTake : FuncData} (Z : Blt K mg) (RT : RdC K mg CR CB qB fB) (SO : SoC K mg aS) (D : DefAt K mg "sort_from" sSortFrom pSortFrom f fd) (MReaderExpect : Meth K CR "expect" fReaderExpect) (BReaderExpect : Binds K fdReaderExpect pReaderExpect []) (GReaderExpect : FnOk P w K mg base (L2.CX P w) 3 fReaderExpect fdReaderExpect pReaderExpect (spReaderExpect K CR CB)) (MReaderTake : Meth K CR "take" fReaderTake) (BReaderTake : Binds K fdReaderTake pReaderTake []) (GReaderTake : FnOk P w K mg base CX0 2 fReaderTake fdReaderTake pReaderTake (spReaderTake K CR)) : FnOk P w K mg base (L2.CX P w) 4 f fd pSortFrom (spSortFrom K CR CB) := by
  refine D.F.okX scSortFrom (fun vs H Q E h => ?_) (fun cdv A outer s0 H vs Q E hr h => ?_)
  · obtain ⟨p, dx, t, i, rfl, _⟩ := h
    rfl
  have hu := hu_of hr
  obtain ⟨p, dx, t, i, rfl, hp, hi, ht, kQ, kE⟩ := h
  refine ⟨_, (pss_cons (ps_for (passes_of rfl) rfl (pi_enumT (by rfl) Z.enumerate (pa_cons (pe_glob (v := .ref aS) rfl SO.g rfl) pa_nil)) (pg_tup rfl (pgs_cons (pg_name (i := 1) scSortFrom.nd rfl (Or.inl rfl)) (pgs_cons (pg_name (i := 2) scSortFrom.nd rfl (Or.inl rfl)) pgs_nil)))
    (pss_one (ps_if (pt_val (pe_meth (pv 0) RT.cl MReaderTake GReaderTake (hr.mono (by decide)) BReaderTake .nil pass0 (pa_cons (pe_ix ix_str (pv 2) pe_int (fun _ _ => rfl)) pa_nil)))
      (pss_cons (ps_expr (pe_meth (pv 0) RT.cl MReaderExpect GReaderExpect (hr.mono (by decide)) BReaderExpect .nil (passes_call (takes_of rfl rfl rfl rfl) fun _ _ _ _ h => h) (pa_cons (pe_slice sl_str (pv 2) (po_some pe_int) po_none) pa_nil)))
        (pss_one (ps_ret (pv 1))))
      pss_nil)))
    (pss_one (ps_raise_at rfl RT.bt hr (takes_of rfl rfl rfl rfl) (pa_cons (pe_fld (pv 0) rfl) pa_nil) rfl))), ?_⟩
  refine ⟨aS, sortsV, rfl, SO.s _, for_enumT (xs := sortsV) (fun k σ H' => ∃ v1 v2, σ = [some (.ref p), v1, v2] ∧ Ap p H H' ∧ H' p = some (.ins CR dx (rdF t i)) ∧ sortE t i = sortG t i k (sortsL.drop k)) ⟨_, _, rfl, Ap.refl _, hp, rfl⟩ (fun k σ H' _ => SO.s H') ?_ ?_⟩
  · rintro k x T σ H' hx ⟨v1, v2, rfl, a1, e1, eG⟩ hT
    obtain ⟨c, r, hs, rfl, hr4, hd⟩ := sorts_get hx
    rw [hd] at eG
    have a2 : Ap p H (upd H' T (.tup [.int (k : Nat), .str (Tx (c :: r))])) := a1.trans (Ap.new hT)
    have e2 : (upd H' T (.tup [.int (k : Nat), .str (Tx (c :: r))])) p = some (.ins CR dx (rdF t i)) := (upd_ne (fun q => by rw [q, hT] at e1; cases e1)).trans e1
    refine ⟨T, _, rfl, SqT.of upd_same, rfl, _, _, rfl, _, _, rfl, rfl, ?_⟩
    refine ⟨_, rfl, p, dx, _, rfl, e2, rdF_none _ _ (by decide +kernel) (by decide +kernel), _, rfl, _, _, c, rfl, rfl, by rw [tx_len]; exact Nat.le_of_lt (small1000 (by simp; omega)), by rw [tx_list]; exact atI_nat (j := 0) rfl, p, dx, t, [c], i, rfl, e2, hi, ht, by show 1 ≤ 600; decide, fun q => ?_, fun q H2 b2 e3 => ?_⟩
    · refine ⟨_, rfl, ?_⟩
      refine iteF ?_
      refine ⟨_, _, rfl, a2, e2, ?_⟩
      rw [eG]
      show (if isAt t [c] i = true then _ else _) = _
      rw [if_neg (by rw [q]; decide)]
    · have hi1 : i + 1 ≤ t.length := isAt_le q hi
      have eS : sortE t i = (match wordE t r (i + 1) with | .ok j => .ok (k, j) | .error j => .error j) := by
        rw [eG]
        show (if isAt t [c] i = true then _ else _) = _
        rw [if_pos q]
        try (cases wordE t r (i + 1) <;> rfl)
      refine ⟨_, rfl, ?_⟩
      refine iteT ?_
      refine ⟨_, rfl, p, dx, _, rfl, e3, rdF_none _ _ (by decide +kernel) (by decide +kernel), _, rfl, _, rfl, _, rfl, by rw [tx_len]; exact Nat.le_of_lt (small1000 (by simp; omega)), p, dx, t, r, i + 1, ?_, e3, hi1, ht, by omega, fun q2 H3 b3 e4 => ?_, fun q2 H3 d a3 e4 => ?_⟩
      · exact congrArg (fun z => [V.ref p, V.str z]) (cut_tail c r)
      · refine ⟨_, rfl, ?_⟩
        refine kQ k _ ?_ (cmn_in q2 hi1) H3 (a2.trans (b2.ap.trans b3.ap)) e4
        rw [eS]
        unfold wordE
        rw [if_pos q2]
      · refine kE _ ?_ H3 d (a2.trans (b2.ap.trans a3)) e4
        rw [eS]
        unfold wordE
        rw [if_neg (by omega)]
  · rintro σ H' ⟨v1, v2, rfl, a1, e1, eG⟩
    exact ⟨_, rfl, p, CR, dx, _, _, rfl, e1, RT.cl, RT.na, rdF_at t i, _, rfl, fun d hd => kE i eG _ d (a1.trans (Ap.new hd)) upd_same⟩
theorem ok_VersionFrom {f : Addr} {fd : FuncData} {fReaderExpect : Addr} {fdReaderExpect : FuncData} {fReaderNumber : Addr} {fdReaderNumber : FuncData} {fReaderTake : Addr} {fdReaderTake : FuncData} {fSortFrom : Addr} {fdSortFrom : FuncData} (Z : Blt K mg) (RT : RdC K mg CR CB qB fB) (D : DefAt K mg "version_from" sVersionFrom pVersionFrom f fd) (MReaderExpect : Meth K CR "expect" fReaderExpect) (BReaderExpect : Binds K fdReaderExpect pReaderExpect []) (GReaderExpect : FnOk P w K mg base (L2.CX P w) 3 fReaderExpect fdReaderExpect pReaderExpect (spReaderExpect K CR CB)) (MReaderNumber : Meth K CR "number" fReaderNumber) (BReaderNumber : Binds K fdReaderNumber pReaderNumber []) (GReaderNumber : FnOk P w K mg base (L2.CX P w) 3 fReaderNumber fdReaderNumber pReaderNumber (spReaderNumber K CR CB)) (MReaderTake : Meth K CR "take" fReaderTake) (BReaderTake : Binds K fdReaderTake pReaderTake []) (GReaderTake : FnOk P w K mg base CX0 2 fReaderTake fdReaderTake pReaderTake (spReaderTake K CR)) (DSortFrom : DefAt K mg "sort_from" sSortFrom pSortFrom fSortFrom fdSortFrom) (GSortFrom : FnOk P w K mg base (L2.CX P w) 4 fSortFrom fdSortFrom pSortFrom (spSortFrom K CR CB)) : FnOk P w K mg base (L2.CX P w) 5 f fd pVersionFrom (spVersionFrom K CR CB) := by
  refine D.F.okX scVersionFrom (fun vs H Q E h => ?_) (fun cdv A outer s0 H vs Q E hr h => ?_)
  · obtain ⟨p, dx, t, i, rfl, _⟩ := h
    rfl
  have hu := hu_of hr
  obtain ⟨p, dx, t, i, rfl, hp, hi, ht, kQ, kE⟩ := h
  refine ⟨_, (pss_cons (ps_set (i := 1) scVersionFrom.nd rfl (Or.inl rfl) (pe_meth0 (pv 0) RT.cl MReaderNumber GReaderNumber (hr.mono (by decide)) BReaderNumber .nil (passes_call (takes_of rfl rfl rfl rfl) fun _ _ _ _ h => h)))
    (pss_cons (ps_expr (pe_meth (pv 0) RT.cl MReaderExpect GReaderExpect (hr.mono (by decide)) BReaderExpect .nil (passes_call (takes_of rfl rfl rfl rfl) fun _ _ _ _ h => h) (pa_cons pe_str pa_nil)))
    (pss_cons (ps_set (i := 2) scVersionFrom.nd rfl (Or.inl rfl) (pe_meth0 (pv 0) RT.cl MReaderNumber GReaderNumber (hr.mono (by decide)) BReaderNumber .nil (passes_call (takes_of rfl rfl rfl rfl) fun _ _ _ _ h => h)))
    (pss_cons (ps_expr (pe_meth (pv 0) RT.cl MReaderExpect GReaderExpect (hr.mono (by decide)) BReaderExpect .nil (passes_call (takes_of rfl rfl rfl rfl) fun _ _ _ _ h => h) (pa_cons pe_str pa_nil)))
    (pss_cons (ps_set (i := 3) scVersionFrom.nd rfl (Or.inl rfl) (pe_meth0 (pv 0) RT.cl MReaderNumber GReaderNumber (hr.mono (by decide)) BReaderNumber .nil (passes_call (takes_of rfl rfl rfl rfl) fun _ _ _ _ h => h)))
    (pss_cons (ps_if (pt_not (pt_val (pe_meth (pv 0) RT.cl MReaderTake GReaderTake (hr.mono (by decide)) BReaderTake .nil pass0 (pa_cons pe_str pa_nil))))
    (pss_one (ps_ret (pe_tup (pa_cons (pv 1) (pa_cons (pv 2) (pa_cons (pv 3) (pa_cons (pe_globI rfl Z.g_WHOLE) (pa_cons pe_int pa_nil))))))))
    pss_nil)
    (pss_cons (ps_set (i := 4) scVersionFrom.nd rfl (Or.inl rfl) (pe_call GSortFrom (hr.mono (by decide)) rfl DSortFrom.g DSortFrom.F.kp DSortFrom.b .nil (passes_call (takes_of rfl rfl rfl rfl) fun _ _ _ _ h => h) (pa_cons (pv 0) pa_nil)))
    (pss_cons (ps_expr (pe_meth (pv 0) RT.cl MReaderExpect GReaderExpect (hr.mono (by decide)) BReaderExpect .nil (passes_call (takes_of rfl rfl rfl rfl) fun _ _ _ _ h => h) (pa_cons pe_str pa_nil)))
    (pss_one (ps_ret (pe_tup (pa_cons (pv 1) (pa_cons (pv 2) (pa_cons (pv 3) (pa_cons (pv 4) (pa_cons (pe_meth0 (pv 0) RT.cl MReaderNumber GReaderNumber (hr.mono (by decide)) BReaderNumber .nil (passes_call (takes_of rfl rfl rfl rfl) fun _ _ _ _ h => h)) pa_nil)))))))))))))))), ?_⟩
  refine ⟨_, rfl, p, dx, _, rfl, hp, rdF_none _ _ (by decide +kernel) (by decide +kernel), p, dx, t, i, rfl, hp, hi, ht, fun i1 n1 h1 H1 b1 e1 => ?_, fun h1 H1 d a1 ed => ?_⟩
  rotate_left
  · exact kE _ (by simp only [verE, num_err h1, bind, Except.bind]) H1 d a1 ed
  have l1 := numAt_le hi h1
  refine ⟨_, rfl, p, dx, _, rfl, e1, rdF_none _ _ (by decide +kernel) (by decide +kernel), p, dx, t, [46], i1, rfl, e1, l1, ht, by show 1 ≤ 600; decide, fun q2 H2 b2 e2 => ?_, fun q2 H2 d a2 ed => ?_⟩
  rotate_left
  · exact kE _ (by simp only [verE, num_ok h1, word_err q2, bind, Except.bind]) H2 d (b1.ap.trans a2) ed
  have l2 := cmn_in q2 l1
  refine ⟨_, rfl, p, dx, _, rfl, e2, rdF_none _ _ (by decide +kernel) (by decide +kernel), p, dx, t, _, rfl, e2, l2, ht, fun i3 n3 h3 H3 b3 e3 => ?_, fun h3 H3 d a3 ed => ?_⟩
  rotate_left
  · exact kE _ (by simp only [verE, num_ok h1, word_ok q2, num_err h3, bind, Except.bind]) H3 d (b1.ap.trans (b2.ap.trans a3)) ed
  have l3 := numAt_le l2 h3
  refine ⟨_, rfl, p, dx, _, rfl, e3, rdF_none _ _ (by decide +kernel) (by decide +kernel), p, dx, t, [46], i3, rfl, e3, l3, ht, by show 1 ≤ 600; decide, fun q4 H4 b4 e4 => ?_, fun q4 H4 d a4 ed => ?_⟩
  rotate_left
  · exact kE _ (by simp only [verE, num_ok h1, word_ok q2, num_ok h3, word_err q4, bind, Except.bind]) H4 d (b1.ap.trans (b2.ap.trans (b3.ap.trans a4))) ed
  have l4 := cmn_in q4 l3
  refine ⟨_, rfl, p, dx, _, rfl, e4, rdF_none _ _ (by decide +kernel) (by decide +kernel), p, dx, t, _, rfl, e4, l4, ht, fun i5 n5 h5 H5 b5 e5 => ?_, fun h5 H5 d a5 ed => ?_⟩
  rotate_left
  · exact kE _ (by simp only [verE, num_ok h1, word_ok q2, num_ok h3, word_ok q4, num_err h5, bind, Except.bind]) H5 d (b1.ap.trans (b2.ap.trans (b3.ap.trans (b4.ap.trans a5)))) ed
  have l5 := numAt_le l4 h5
  have A5 : Ap p H H5 := (b1.ap.trans (b2.ap.trans (b3.ap.trans (b4.ap.trans b5.ap))))
  refine ⟨_, rfl, p, dx, _, rfl, e5, rdF_none _ _ (by decide +kernel) (by decide +kernel), p, dx, t, [45], i5, rfl, e5, l5, ht, by show 1 ≤ 600; decide, fun q6 => ?_, fun q6 H6 b6 e6 => ?_⟩
  · refine ⟨_, rfl, ?_⟩
    refine iteT ?_
    refine ⟨_, rfl, _, rfl, _, rfl, by show 5 ≤ sizeLine; decide, fun x hx => ?_⟩
    have f6 : verE t i = .ok ([(n1 : Int), (n3 : Int), (n5 : Int), 3, 0], i5) := by
      simp only [verE, num_ok h1, word_ok q2, num_ok h3, word_ok q4, num_ok h5, bind, Except.bind, q6]
      rfl
    exact kQ _ _ f6 l5 _ x (A5.trans (Ap.new hx)) ((upd_ne (fun z => by rw [← z, e5] at hx; cases hx)).trans e5) upd_same
  have l6 : i5 + 1 ≤ t.length := isAt_le q6 l5
  have A6 : Ap p H H6 := A5.trans b6.ap
  refine ⟨_, rfl, ?_⟩
  refine iteF ?_
  refine ⟨_, rfl, p, dx, t, i5 + 1, rfl, e6, l6, ht, fun s7 i7 h7 l7 H7 a7 e7 => ?_, fun j7 h7 H7 d a7 ed => ?_⟩
  rotate_left
  · exact kE _ (by simp only [verE, num_ok h1, word_ok q2, num_ok h3, word_ok q4, num_ok h5, h7, bind, Except.bind, q6, if_true]) H7 d (A6.trans a7) ed
  refine ⟨_, rfl, p, dx, _, rfl, e7, rdF_none _ _ (by decide +kernel) (by decide +kernel), p, dx, t, [46], i7, rfl, e7, l7, ht, by show 1 ≤ 600; decide, fun q8 H8 b8 e8 => ?_, fun q8 H8 d a8 ed => ?_⟩
  rotate_left
  · exact kE _ (by simp only [verE, num_ok h1, word_ok q2, num_ok h3, word_ok q4, num_ok h5, h7, word_err q8, bind, Except.bind, q6, if_true]) H8 d (A6.trans (a7.trans a8)) ed
  have l8 := cmn_in q8 l7
  refine ⟨_, rfl, _, rfl, _, rfl, _, rfl, _, rfl, p, dx, _, rfl, e8, rdF_none _ _ (by decide +kernel) (by decide +kernel), p, dx, t, _, rfl, e8, l8, ht, fun i9 n9 h9 H9 b9 e9 => ?_, fun h9 H9 d a9 ed => ?_⟩
  rotate_left
  · exact kE _ (by simp only [verE, num_ok h1, word_ok q2, num_ok h3, word_ok q4, num_ok h5, h7, word_ok q8, num_err h9, bind, Except.bind, q6, if_true]) H9 d (A6.trans (a7.trans (b8.ap.trans a9))) ed
  have l9 := numAt_le l8 h9
  refine ⟨by show 5 ≤ sizeLine; decide, fun x hx => ?_⟩
  have f9 : verE t i = .ok ([(n1 : Int), (n3 : Int), (n5 : Int), (s7 : Int), (n9 : Int)], i9) := by
    simp only [verE, num_ok h1, word_ok q2, num_ok h3, word_ok q4, num_ok h5, h7, word_ok q8, num_ok h9, bind, Except.bind, q6, if_true]
  exact kQ _ _ f9 l9 _ x (A6.trans (a7.trans (b8.ap.trans (b9.ap.trans (Ap.new hx))))) ((upd_ne (fun z => by rw [← z, e9] at hx; cases hx)).trans e9) upd_same
theorem ok_ReadWhole {f : Addr} {fd : FuncData} {fReaderInit : Addr} {fdReaderInit : FuncData} {fReaderFinish : Addr} {fdReaderFinish : FuncData} {fVersionFrom : Addr} {fdVersionFrom : FuncData} (Z : Blt K mg) (RT : RdC K mg CR CB qB fB) (D : DefAt K mg "read_whole" sReadWhole pReadWhole f fd) (MReaderInit : Mk K CR fReaderInit) (BReaderInit : Binds K fdReaderInit pReaderInit []) (GReaderInit : FnOk P w K mg base (L2.CX P w) 1 fReaderInit fdReaderInit pReaderInit (spReaderInit K CR)) (MReaderFinish : Meth K CR "finish" fReaderFinish) (BReaderFinish : Binds K fdReaderFinish pReaderFinish []) (GReaderFinish : FnOk P w K mg base (L2.CX P w) 1 fReaderFinish fdReaderFinish pReaderFinish (spReaderFinish K CR CB)) (DVersionFrom : DefAt K mg "version_from" sVersionFrom pVersionFrom fVersionFrom fdVersionFrom) (GVersionFrom : FnOk P w K mg base (L2.CX P w) 5 fVersionFrom fdVersionFrom pVersionFrom (spVersionFrom K CR CB)) : FnOk P w K mg base (L2.CX P w) 6 f fd pReadWhole (spReadWhole K CB fVersionFrom) := by
  refine D.F.okX scReadWhole (fun vs H Q E h => ?_) (fun cdv A outer s0 H vs Q E hr h => ?_)
  · obtain ⟨t, rfl, _⟩ := h
    rfl
  have hu := hu_of hr
  obtain ⟨t, rfl, ht, kQ, kE⟩ := h
  refine ⟨_, (pss_cons (ps_set (i := 2) scReadWhole.nd rfl (Or.inl rfl) (pe_make MReaderInit GReaderInit (hr.mono (by decide)) rfl RT.gR BReaderInit .nil (passes_call (takes_of rfl rfl rfl rfl) fun _ _ _ _ h => h) (pa_cons (pv 0) pa_nil)))
    (pss_cons (ps_set (i := 3) scReadWhole.nd rfl (Or.inl rfl) (pe_callVX (i := 1) GVersionFrom (hr.mono (by decide)) rfl (by first | exact Or.inl rfl | exact Or.inr (Or.inl rfl) | exact Or.inr (Or.inr rfl)) DVersionFrom.F.kp DVersionFrom.b (passes_call (takes_of rfl rfl rfl rfl) fun _ _ _ _ h => h) (pa_cons (pv 2) pa_nil)))
    (pss_cons (ps_expr (pe_meth0 (pv 2) RT.cl MReaderFinish GReaderFinish (hr.mono (by decide)) BReaderFinish .nil (passes_call (takes_of rfl rfl rfl rfl) fun _ _ _ _ h => h)))
    (pss_one (ps_ret (pv 3)))))), ?_⟩
  refine ⟨_, rfl, fun x dx hx hdx ne => ⟨x, dx, t, rfl, upd_same, fun H1 b1 e1 => ⟨rfl, ?_⟩⟩⟩
  have s1 : ∀ H2, Ap x H1 H2 → Same H H2 := fun H2 a b o e => by
    have n1 : b ≠ x := fun z => by rw [z, hx] at e; cases e
    have n2 : b ≠ dx := fun z => by rw [z, hdx] at e; cases e
    refine a b o n1 ?_
    rw [b1 b n1, upd_ne n1, upd_ne n2]
    exact e
  refine ⟨rfl, _, rfl, x, dx, t, 0, rfl, e1, Nat.zero_le _, ht, fun v j hv hj H2 q a2 e2 eq => ?_, fun j hv H2 d a2 ed => ?_⟩
  rotate_left
  · exact kE j (by unfold readE; rw [hv]) H2 d (s1 _ a2) ed
  refine ⟨_, rfl, x, dx, _, rfl, e2, rdF_none _ _ (by decide +kernel) (by decide +kernel), x, dx, t, j, rfl, e2, hj, ht, fun q3 => ?_, fun q3 H3 d a3 ed => ?_⟩
  · exact ⟨_, rfl, kQ v (by unfold readE; rw [hv]; exact if_neg (by omega)) H2 q (s1 _ a2) eq⟩
  · exact kE j (by unfold readE; rw [hv]; exact if_pos q3) H3 d (s1 _ (a2.trans a3)) ed
theorem ok_ReadVersion {f : Addr} {fd : FuncData} {fReadWhole : Addr} {fdReadWhole : FuncData} {fVersionFrom : Addr} {fdVersionFrom : FuncData} (Z : Blt K mg) (RT : RdC K mg CR CB qB fB) (D : DefAt K mg "read_version" sReadVersion pReadVersion f fd) (DReadWhole : DefAt K mg "read_whole" sReadWhole pReadWhole fReadWhole fdReadWhole) (GReadWhole : FnOk P w K mg base (L2.CX P w) 6 fReadWhole fdReadWhole pReadWhole (spReadWhole K CB fVersionFrom)) (DVersionFrom : DefAt K mg "version_from" sVersionFrom pVersionFrom fVersionFrom fdVersionFrom) (GVersionFrom : FnOk P w K mg base (L2.CX P w) 5 fVersionFrom fdVersionFrom pVersionFrom (spVersionFrom K CR CB)) : FnOk P w K mg base (L2.CX P w) 7 f fd pReadVersion (spReadVersion K CR CB) := by
  refine D.F.okX scReadVersion (fun vs H Q E h => ?_) (fun cdv A outer s0 H vs Q E hr h => ?_)
  · obtain ⟨t, rfl, _⟩ := h
    rfl
  have hu := hu_of hr
  obtain ⟨t, rfl, ht, kQ, kE⟩ := h
  refine ⟨_, (pss_one (ps_ret (pe_call GReadWhole (hr.mono (by decide)) rfl DReadWhole.g DReadWhole.F.kp DReadWhole.b .nil (passes_call (takes_of rfl rfl rfl rfl) fun _ _ _ _ h => h) (pa_cons (pv 0) (pa_cons (pe_glob (v := .ref fVersionFrom) rfl DVersionFrom.g rfl) pa_nil))))), ?_⟩
  exact ⟨_, rfl, t, rfl, ht, kQ, kE⟩
end


abbrev sLDraw : Stmt := top 24
abbrev nLDraw : List Str := ["_law_deck_here", "_law_below", "_law_figure", "_law_cell"]
abbrev pLDraw : List Str := ["_law_deck_here", "_law_below"]
theorem scLDraw : FnScope nLDraw pLDraw (defScope sLDraw) := ⟨rfl, rfl, rfl, by decide +kernel, rfl, by decide +kernel, by decide +kernel⟩
def spLDraw : Sp := fun vs H Q _ => ∃ (d l : Addr) (m : Int), vs = [.ref d, .int m] ∧ Deck d l H ∧ 0 < m ∧ m < 1073741824 ∧ ∀ (H' : Hp) (r : Int), Kp d l H H' → Deck d l H' → 0 ≤ r → r < m → Q (.int r) H'
section
variable {P : Program} {w : World} {K : PySem.W.Frag} {mg : Str → Option Value} {base : Heap}
theorem ok_LDraw {f : Addr} {fd : FuncData} (Z : Blt K mg) (D : DefAt K mg "_law_draw" sLDraw pLDraw f fd) : FnOk P w K mg base CX0 1 f fd pLDraw spLDraw := by
  refine D.F.ok scLDraw (fun vs H Q E h => ?_) (fun cdv A outer s0 H vs Q E hr h => ?_)
  · obtain ⟨d, l, m, rfl, _⟩ := h
    rfl
  have hu := hu_of hr
  obtain ⟨d, l, m, rfl, Dk, hm0, hm1, k⟩ := h
  refine ⟨_, (pss_cons (ps_dput hu (pv 0) pe_str (pe_op op_add (pe_dget hu (pv 0) pe_str (fun _ _ => rfl)) pe_int) rfl)
    (pss_cons (ps_set (i := 2) scLDraw.nd rfl (Or.inl rfl) (pe_op op_add (pe_dget hu (pv 0) pe_str (fun _ _ => rfl)) (pe_op op_mul pe_int (pe_dget hu (pv 0) pe_str (fun _ _ => rfl)))))
    (Evl.pss_cut (ps_if (pt_cmpR (op_neD hr.units) (pe_dget hu (pv 0) pe_str (fun _ _ => rfl)) (pe_lst pa_nil) (nomark _))
    (pss_cons (ps_set (i := 3) scLDraw.nd rfl (Or.inl rfl) (pe_bm0 PySem.F.plainAttrs_list PySem.F.slot_list_pop PySem.F.type_list_pop mt_pop (pe_dget hu (pv 0) pe_str (fun _ _ => rfl))))
      (pss_cons (ps_if (pt_cmpR op_ge (pv 3) (pe_op op_pow pe_int pe_int) (nomark _))
      (pss_cons (ps_expr (pe_bm PySem.F.plainAttrs_list PySem.F.slot_list_append PySem.F.type_list_append mt_append (pe_dget hu (pv 0) pe_str (fun _ _ => rfl)) (pa_cons (pe_op op_fdivN (pv 3) (pe_callB (call_max2 rfl) (by rfl) Z.max (by decide +kernel) (pa_cons pe_int (pa_cons (pv 1) pa_nil)))) pa_nil)))
        (pss_one (ps_ret (pe_op op_mod (pe_callTy call_int1 (by rfl) Z.int (by decide +kernel) (pa_cons (pv 3) pa_nil)) (pv 1)))))
      pss_nil)
      (pss_cons (ps_dput hu (pv 0) pe_str (pe_op op_mod (pe_callTy call_int1 (by rfl) Z.int (by decide +kernel) (pa_cons (pe_op op_add (pe_op op_add (pe_op op_mul (pe_dget hu (pv 0) pe_str (fun _ _ => rfl)) pe_int) (pe_op op_mod (pe_callTy call_int1 (by rfl) Z.int (by decide +kernel) (pa_cons (pv 3) pa_nil)) pe_int)) pe_int) pa_nil)) pe_int) rfl)
      (pss_one (ps_set (i := 2) scLDraw.nd rfl (Or.inl rfl) (pe_op op_add (pv 2) (pe_op op_mod (pe_callTy call_int1 (by rfl) Z.int (by decide +kernel) (pa_cons (pv 3) pa_nil)) pe_int)))))))
    pss_nil)
    (pss_cons (ps_set (i := 2) scLDraw.nd rfl (Or.inl rfl) (pe_op op_mod (pe_callTy call_int1 (by rfl) Z.int (by decide +kernel) (pa_cons (pe_op op_add (pe_op op_mul (pv 2) pe_int) pe_int) pa_nil)) pe_int))
    (pss_cons (ps_set (i := 2) scLDraw.nd rfl (Or.inl rfl) (pe_op op_mod (pe_callTy call_int1 (by rfl) Z.int (by decide +kernel) (pa_cons (pe_op op_add (pe_op op_add (pe_op op_mul (pv 2) (pv 2)) (pe_op op_mul pe_int (pe_dget hu (pv 0) pe_str (fun _ _ => rfl)))) pe_int) pa_nil)) pe_int))
    (pss_cons (ps_set (i := 2) scLDraw.nd rfl (Or.inl rfl) (pe_op op_mod (pe_callTy call_int1 (by rfl) Z.int (by decide +kernel) (pa_cons (pe_op op_add (pe_op op_mul (pv 2) pe_int) pe_int) pa_nil)) pe_int))
    (pss_one (ps_ret (pe_op op_mod (pe_callTy call_int1 (by rfl) Z.int (by decide +kernel) (pa_cons (pe_op op_fdiv (pv 2) pe_int) pa_nil)) (pv 1)))))))))), ?_⟩
  obtain ⟨ns, mx, t, h1, h2, hl, a0, a1⟩ := Dk
  have ndl : d ≠ l := ne_of h1 h2 (fun q => nomatch q)
  refine ⟨_, rfl, d, _, rfl, get_turn h1, _, _, rfl, rfl, _, rfl, d, _, rfl, set_turn _ h1, ?_⟩
  have h1' := (upd_same (H := H) (a := d) (o := .dK (dkv l mx (t + 1))))
  have h2' : upd H d (.dK (dkv l mx (t + 1))) l = some (.lst (ns.map V.int)) := by rw [upd_ne ndl.symm]; exact h2
  have k1 : Kp d l H (upd H d (.dK (dkv l mx (t + 1)))) := fun b o n1 _ e => by rw [upd_ne n1]; exact e
  generalize upd H d (.dK (dkv l mx (t + 1))) = H1 at *
  refine ⟨_, rfl, d, _, rfl, get_mixed h1', _, rfl, d, _, rfl, get_turn h1', _, _, rfl, rfl, .inl (by decide), _, _, rfl, rfl, ?_⟩
  refine ⟨fun σ' H' => ∃ (fig : Int) (v3 : Option V), σ' = [some (.ref d), some (.int m), some (.int fig), v3] ∧ Deck d l H' ∧ Kp d l H H', ?_, ?_⟩
  · refine ⟨_, rfl, d, _, rfl, get_left h1', Nat.zero_le _, fun p hp => ?_⟩
    have h3 : upd H1 p (.lst []) d = some (.dK (dkv l mx (t + 1))) := by rw [upd_ne (ne_of_none h1' hp)]; exact h1'
    have h4 : upd H1 p (.lst []) l = some (.lst (ns.map V.int)) := by rw [upd_ne (ne_of_none h2' hp)]; exact h2'
    have h5 : upd H1 p (.lst []) p = some (.lst []) := upd_same
    have k2 : Kp d l H (upd H1 p (.lst [])) := k1.trans (Kp.new hp)
    generalize upd H1 p (.lst []) = H2 at *
    refine ⟨_, _, .lst (SqL.of h4) (DpAll.ints ns), .lst (SqL.of h5) .nil, sh_ints ns, by decide, _, rfl, ?_⟩
    cases ns with
    | nil =>
      refine iteF ?_
      exact ⟨_, none, rfl, ⟨[], mx, t + 1, h3, h4, hl, a0, a1⟩, k2⟩
    | cons n0 nr =>
      refine iteT ?_
      generalize hz : (n0 :: nr : List Int) = zs at *
      have hzl : zs ≠ [] := by rw [← hz]; exact List.cons_ne_nil _ _
      obtain ⟨z, hzz⟩ : ∃ z, zs = zs.dropLast ++ [z] := ⟨zs.getLast hzl, (List.dropLast_concat_getLast hzl).symm⟩
      have hget : (zs.map V.int)[(zs.map V.int).length - 1]? = some (V.int z) := by
        rw [hzz]; simp
      have hdl : (zs.map V.int).dropLast = zs.dropLast.map V.int := by simp
      refine ⟨_, rfl, d, _, rfl, get_left h3, .inl ⟨rfl, _, SqL.of h4⟩, l, _, _, rfl, rfl, h4, hget, ?_⟩
      rw [hdl]
      have h6 : upd H2 l (.lst (zs.dropLast.map V.int)) d = some (.dK (dkv l mx (t + 1))) := by rw [upd_ne ndl]; exact h3
      have h7 : upd H2 l (.lst (zs.dropLast.map V.int)) l = some (.lst (zs.dropLast.map V.int)) := upd_same
      have k3 : Kp d l H (upd H2 l (.lst (zs.dropLast.map V.int))) := fun b o n1 n2 e => by rw [upd_ne n2]; exact k2 b o n1 n2 e
      have hl2 : zs.dropLast.length + 1 ≤ 63 := by
        have := congrArg List.length hzz
        rw [List.length_append, List.length_singleton] at this
        omega
      generalize upd H2 l (.lst (zs.dropLast.map V.int)) = H3 at *
      generalize zs.dropLast = ws at *
      refine ⟨_, rfl, _, _, rfl, rfl, ⟨by decide, by decide, by decide⟩, _, _, rfl, rfl, _, rfl, ?_⟩
      refine ite2 (fun _ => ?_) (fun _ => ?_)
      · refine ⟨_, rfl, d, _, rfl, get_left h6, .inl ⟨rfl, _, SqL.of h7⟩, _, rfl, _, rfl, _, _, rfl, _, _, rfl, rfl, ⟨?_, ?_⟩, l, _, _, rfl, rfl, h7, ?_, ?_⟩
        · split <;> omega
        · split <;> omega
        · rw [List.length_map]; exact small1000 (by omega)
        · have h8 : upd H3 l (.lst (ws.map V.int ++ [V.int (z.fdiv (if m > 2 then m else 2))])) d = some (.dK (dkv l mx (t + 1))) := by rw [upd_ne ndl]; exact h6
          refine ⟨_, rfl, .inl ⟨_, rfl, _, rfl, _, _, rfl, rfl, hm0, ?_⟩⟩
          refine k _ _ ?_ ?_ (Int.emod_nonneg _ (by omega)) (Int.emod_lt_of_pos _ hm0)
          · intro b o n1 n2 e
            rw [upd_ne n2]
            exact k3 b o n1 n2 e
          · refine ⟨ws ++ [z.fdiv (if m > 2 then m else 2)], mx, t + 1, h8, ?_, ?_, a0, a1⟩
            · rw [upd_same, List.map_append]; rfl
            · rw [List.length_append, List.length_singleton]; exact hl2
      · refine ⟨_, rfl, d, _, rfl, get_mixed h6, _, _, rfl, rfl, .inr (by decide), _, rfl, .inl ⟨_, rfl, _, _, rfl, rfl, (by show (0 : Int) < 2147483587; decide), _, _, rfl, rfl, _, _, rfl, rfl, .inl ⟨_, rfl, _, _, rfl, rfl, (by show (0 : Int) < 2147483647; decide), _, rfl, d, _, rfl, set_mixed _ h6, ?_⟩⟩⟩
        have hm2 : (mx * 16807 + z % 2147483587 + 3) % 2147483647 < 2147483647 := Int.emod_lt_of_pos _ (by decide)
        have hm3 : 0 ≤ (mx * 16807 + z % 2147483587 + 3) % 2147483647 := Int.emod_nonneg _ (by decide)
        generalize (mx * 16807 + z % 2147483587 + 3) % 2147483647 = mx2 at *
        refine ⟨_, rfl, _, rfl, .inl ⟨_, rfl, _, _, rfl, rfl, (by show (0 : Int) < 2147483563; decide), _, _, rfl, rfl, ?_⟩⟩
        refine ⟨_, _, rfl, ⟨ws, mx2, t + 1, upd_same, by rw [upd_ne ndl.symm]; exact h7, by omega, hm3, hm2⟩, fun b o n1 n2 e => ?_⟩
        rw [upd_ne n1]
        exact k3 b o n1 n2 e
  · rintro σ' H' ⟨fig, v3, rfl, ⟨ns', mx', t', g1, g2, g3, g4, g5⟩, k4⟩
    refine ⟨_, rfl, _, _, rfl, rfl, .inr (by decide), _, _, rfl, rfl, .inl ⟨_, rfl, _, _, rfl, rfl, (by show (0 : Int) < 2147483629; decide), ?_⟩⟩
    have b1 : (fig * 40014 + 19) % 2147483629 < 2147483629 := Int.emod_lt_of_pos _ (by decide)
    have b2 : 0 ≤ (fig * 40014 + 19) % 2147483629 := Int.emod_nonneg _ (by decide)
    generalize (fig * 40014 + 19) % 2147483629 = f1 at *
    refine ⟨_, rfl, _, rfl, _, _, rfl, rfl, .inl ⟨by omega, by omega⟩, _, rfl, d, _, rfl, get_turn g1, _, _, rfl, rfl, .inl (by decide), _, _, rfl, rfl, _, _, rfl, rfl, .inl ⟨_, rfl, _, _, rfl, rfl, (by show (0 : Int) < 2147483587; decide), ?_⟩⟩
    generalize (f1 * f1 + 77773 * t' + 5) % 2147483587 = f2 at *
    refine ⟨_, rfl, _, _, rfl, rfl, .inr (by decide), _, _, rfl, rfl, .inl ⟨_, rfl, _, _, rfl, rfl, (by show (0 : Int) < 2147483563; decide), ?_⟩⟩
    generalize (f2 * 40692 + 3) % 2147483563 = f3 at *
    refine ⟨_, rfl, _, _, rfl, rfl, ⟨by decide, by decide⟩, .inl ⟨_, rfl, _, rfl, _, _, rfl, rfl, hm0, ?_⟩⟩
    exact k _ _ k4 ⟨ns', mx', t', g1, g2, g3, g4, g5⟩ (Int.emod_nonneg _ (by omega)) (Int.emod_lt_of_pos _ hm0)
end
abbrev sLPick : Stmt := top 25
abbrev nLPick : List Str := ["_law_deck_here", "_law_some"]
abbrev pLPick : List Str := ["_law_deck_here", "_law_some"]
theorem scLPick : FnScope nLPick pLPick (defScope sLPick) := ⟨rfl, rfl, rfl, by decide +kernel, rfl, by decide +kernel, by decide +kernel⟩
abbrev sLNumber : Stmt := top 26
abbrev nLNumber : List Str := ["_law_deck_here"]
abbrev pLNumber : List Str := ["_law_deck_here"]
theorem scLNumber : FnScope nLNumber pLNumber (defScope sLNumber) := ⟨rfl, rfl, rfl, by decide +kernel, rfl, by decide +kernel, by decide +kernel⟩
abbrev sLVersion : Stmt := top 27
abbrev nLVersion : List Str := ["_law_deck_here", "_law_near", "_law_k", "_law_a", "_law_b", "_law_c", "_law_n", "_law_turn", "_law_other"]
abbrev pLVersion : List Str := ["_law_deck_here", "_law_near"]
theorem scLVersion : FnScope nLVersion pLVersion (defScope sLVersion) := ⟨rfl, rfl, rfl, by decide +kernel, rfl, by decide +kernel, by decide +kernel⟩
abbrev sLVersions : Stmt := top 28
abbrev nLVersions : List Str := ["_law_deck_here", "_law_many", "_law_found", "_law_turn", "_law_version_here"]
abbrev pLVersions : List Str := ["_law_deck_here", "_law_many"]
theorem scLVersions : FnScope nLVersions pLVersions (defScope sLVersions) := ⟨rfl, rfl, rfl, by decide +kernel, rfl, by decide +kernel, by decide +kernel⟩
abbrev sLNext : Stmt := top 29
abbrev nLNext : List Str := ["_law_version_here", "_law_a", "_law_b", "_law_c", "_law_k", "_law_n"]
abbrev pLNext : List Str := ["_law_version_here"]
theorem scLNext : FnScope nLNext pLNext (defScope sLNext) := ⟨rfl, rfl, rfl, by decide +kernel, rfl, by decide +kernel, by decide +kernel⟩
def spLPick : Sp := fun vs H Q _ => ∃ (d l s : Addr) (xs : List V), vs = [.ref d, .ref s] ∧ Deck d l H ∧ H s = some (.lst xs) ∧ s ≠ l ∧ 0 < xs.length ∧ xs.length < 1000000 ∧ ∀ (H' : Hp) (v : V), Kp d l H H' → Deck d l H' → v ∈ xs → Q v H'
def spLNumber : Sp := fun vs H Q _ => ∃ (d l : Addr), vs = [.ref d] ∧ Deck d l H ∧ ∀ (H' : Hp) (r : Int), Kp d l H H' → Deck d l H' → 0 ≤ r → r ≤ 1000000000 → Q (.int r) H'
def spLVersion (K : PySem.W.Frag) : Sp := fun vs H Q _ => ∃ (d l s : Addr) (xs : List V) (B : Int), vs = [.ref d, .ref s] ∧ Deck d l H ∧ H s = some (.lst xs) ∧ s ≠ l ∧ xs.length < 1000000 ∧ 1000000000 ≤ B ∧ (∀ v ∈ xs, VV K B H v) ∧ ∀ (H' : Hp) (v : V), Kp d l H H' → Deck d l H' → VV K B H' v → Q v H'
section
variable {P : Program} {w : World} {K : PySem.W.Frag} {mg : Str → Option Value} {base : Heap}
theorem ok_LPick {f : Addr} {fd : FuncData} {fLDraw : Addr} {fdLDraw : FuncData} (Z : Blt K mg) (D : DefAt K mg "_law_pick" sLPick pLPick f fd) (DLDraw : DefAt K mg "_law_draw" sLDraw pLDraw fLDraw fdLDraw) (GLDraw : FnOk P w K mg base CX0 1 fLDraw fdLDraw pLDraw spLDraw) : FnOk P w K mg base CX0 2 f fd pLPick spLPick := by
  refine D.F.ok scLPick (fun vs H Q E h => ?_) (fun cdv A outer s0 H vs Q E hr h => ?_)
  · obtain ⟨d, l, s, xs, rfl, _⟩ := h
    rfl
  have hu := hu_of hr
  obtain ⟨d, l, s, xs, rfl, Dk, hs, nsl, h0, h1, k⟩ := h
  refine ⟨_, (pss_one (ps_ret (pe_ix ix_list (pv 1) (pe_call GLDraw (hr.mono (by decide)) rfl DLDraw.g DLDraw.F.kp DLDraw.b .nil pass0 (pa_cons (pv 0) (pa_cons (pe_callB call_len_seq (by rfl) Z.len (by decide +kernel) (pa_cons (pv 1) pa_nil)) pa_nil))) (fun _ _ => rfl)))), ?_⟩
  refine ⟨_, rfl, _, rfl, _, rfl, s, xs, rfl, .inl (SqL.of hs), d, l, _, rfl, Dk, by omega, by omega, fun H' r k1 D1 r0 r1 => ?_⟩
  have hs' := k1.lst Dk nsl hs
  obtain ⟨n, rfl⟩ : ∃ n : Nat, r = (n : Int) := ⟨r.toNat, by omega⟩
  have hn : n < xs.length := by omega
  exact ⟨s, xs, _, xs[n], rfl, rfl, SqL.of hs', atI_nat (List.getElem?_eq_getElem hn), k _ _ k1 D1 (List.getElem_mem hn)⟩
theorem ok_LNumber {f : Addr} {fd : FuncData} {fLDraw : Addr} {fdLDraw : FuncData} {fLPick : Addr} {fdLPick : FuncData} (Z : Blt K mg) (D : DefAt K mg "_law_number" sLNumber pLNumber f fd) (DLDraw : DefAt K mg "_law_draw" sLDraw pLDraw fLDraw fdLDraw) (GLDraw : FnOk P w K mg base CX0 1 fLDraw fdLDraw pLDraw spLDraw) (DLPick : DefAt K mg "_law_pick" sLPick pLPick fLPick fdLPick) (GLPick : FnOk P w K mg base CX0 2 fLPick fdLPick pLPick spLPick) : FnOk P w K mg base CX0 3 f fd pLNumber spLNumber := by
  refine D.F.ok scLNumber (fun vs H Q E h => ?_) (fun cdv A outer s0 H vs Q E hr h => ?_)
  · obtain ⟨d, l, rfl, _⟩ := h
    rfl
  have hu := hu_of hr
  obtain ⟨d, l, rfl, Dk, k⟩ := h
  refine ⟨_, (pss_one (ps_ret (pe_call GLPick (hr.mono (by decide)) rfl DLPick.g DLPick.F.kp DLPick.b .nil pass0 (pa_cons (pv 0) (pa_cons (pe_lst (pa_cons pe_int (pa_cons pe_int (pa_cons pe_int (pa_cons pe_int (pa_cons pe_int (pa_cons pe_int (pa_cons pe_int (pa_cons pe_int (pa_cons pe_int (pa_cons pe_int (pa_cons pe_int (pa_cons (pe_op op_sub (pe_op op_pow pe_int pe_int) pe_int) (pa_cons (pe_call GLDraw (hr.mono (by decide)) rfl DLDraw.g DLDraw.F.kp DLDraw.b .nil pass0 (pa_cons (pv 0) (pa_cons (pe_op op_pow pe_int pe_int) pa_nil))) pa_nil)))))))))))))) pa_nil))))), ?_⟩
  refine ⟨_, rfl, _, _, rfl, rfl, ⟨by decide, by decide, by decide⟩, _, _, rfl, rfl, _, rfl, _, _, rfl, rfl, ⟨by decide, by decide, by decide⟩, d, l, _, rfl, Dk, by decide, by decide, fun H1 r k1 D1 r0 r1 => ?_⟩
  refine ⟨by show 13 ≤ sizeLine; decide, fun p hp => ?_⟩
  have D2 := D1.new (o := .lst [.int 0, .int 0, .int 0, .int 1, .int 1, .int 2, .int 3, .int 9, .int 10, .int 19, .int 100, .int (10 ^ (9 : Int).toNat - 30), .int r]) hp
  refine ⟨d, l, p, _, rfl, D2, upd_same, ?_, by show 0 < 13; decide, by show 13 < 1000000; decide, fun H2 v k2 D3 hv => ?_⟩
  · intro e
    obtain ⟨_, _, _, _, q, _⟩ := D1
    rw [← e, hp] at q
    cases q
  · have k3 := (k1.trans (Kp.new hp)).trans k2
    have r2 : (10 : Int) ^ (9 : Int).toNat = 1000000000 := by decide
    have r3 : (10 : Int) ^ (6 : Int).toNat = 1000000 := by decide
    rw [r2] at hv
    rw [r3] at r1
    simp only [List.mem_cons, List.not_mem_nil, or_false] at hv
    rcases hv with rfl | rfl | rfl | rfl | rfl | rfl | rfl | rfl | rfl | rfl | rfl | rfl | rfl
    all_goals exact k _ _ k3 D3 (by omega) (by omega)
theorem ok_LVersion {f : Addr} {fd : FuncData} {fLDraw : Addr} {fdLDraw : FuncData} {fLNumber : Addr} {fdLNumber : FuncData} {fLPick : Addr} {fdLPick : FuncData} (Z : Blt K mg) (D : DefAt K mg "_law_version" sLVersion pLVersion f fd) (DLDraw : DefAt K mg "_law_draw" sLDraw pLDraw fLDraw fdLDraw) (GLDraw : FnOk P w K mg base CX0 1 fLDraw fdLDraw pLDraw spLDraw) (DLNumber : DefAt K mg "_law_number" sLNumber pLNumber fLNumber fdLNumber) (GLNumber : FnOk P w K mg base CX0 3 fLNumber fdLNumber pLNumber spLNumber) (DLPick : DefAt K mg "_law_pick" sLPick pLPick fLPick fdLPick) (GLPick : FnOk P w K mg base CX0 2 fLPick fdLPick pLPick spLPick) : FnOk P w K mg base CX0 4 f fd pLVersion (spLVersion K) := by
  refine D.F.ok scLVersion (fun vs H Q E h => ?_) (fun cdv A outer s0 H vs Q E hr h => ?_)
  · obtain ⟨d, l, s, xs, B, rfl, _⟩ := h
    rfl
  have hu := hu_of hr
  obtain ⟨d, l, s, xs, B, rfl, Dk, hs, nsl, hl, hB, hv, k⟩ := h
  refine ⟨_, (pss_cons (ps_set (i := 2) scLVersion.nd rfl (Or.inl rfl) (pe_call GLPick (hr.mono (by decide)) rfl DLPick.g DLPick.F.kp DLPick.b .nil pass0 (pa_cons (pv 0) (pa_cons (pe_lst (pa_cons pe_int (pa_cons pe_int (pa_cons pe_int (pa_cons pe_int (pa_cons pe_int (pa_cons pe_int pa_nil))))))) pa_nil))))
    (pss_cons (ps_asg (pe_lc (own := [("_law_turn", 7)]) (g := gName 7) (tt := tYes) rfl scLVersion.nd (pi_range1 (by rfl) Z.range (pa_cons pe_int pa_nil)) (blkOk_by (own := [("_law_turn", 7)]) (N := nLVersion) (sc := defScope sLVersion) (by decide +kernel)) (fun _ _ _ _ _ => (pg_name (i := 7) scLVersion.nd rfl (Or.inl rfl))) (fun _ _ _ _ _ => pts_nil) (fun _ _ _ _ _ => (pe_call GLNumber (hr.mono (by decide)) rfl DLNumber.g DLNumber.F.kp DLNumber.b .nil pass0 (pa_cons (pv 0) pa_nil)))) (pg_unl rfl (pgs_cons (pg_name (i := 3) scLVersion.nd rfl (Or.inl rfl)) (pgs_cons (pg_name (i := 4) scLVersion.nd rfl (Or.inl rfl)) (pgs_cons (pg_name (i := 5) scLVersion.nd rfl (Or.inl rfl)) (pgs_cons (pg_name (i := 6) scLVersion.nd rfl (Or.inl rfl)) pgs_nil))))))
    (Evl.pss_cut (ps_if (PW.pt (pw_and (pt_cmpR (op_neD hr.units) (pv 1) (pe_lst pa_nil) (nomark _)) (pw_and1 (pt_cmpR op_gt (pe_call GLDraw (hr.mono (by decide)) rfl DLDraw.g DLDraw.F.kp DLDraw.b .nil pass0 (pa_cons (pv 0) (pa_cons pe_int pa_nil))) pe_int (nomark _)))))
    (pss_cons (ps_set (i := 8) scLVersion.nd rfl (Or.inl rfl) (pe_call GLPick (hr.mono (by decide)) rfl DLPick.g DLPick.F.kp DLPick.b .nil pass0 (pa_cons (pv 0) (pa_cons (pv 1) pa_nil))))
      (Evl.pss_cut (ps_set (i := 3) scLVersion.nd rfl (Or.inl rfl) (pe_ifExp (pt_cmpR op_gt (pe_call GLDraw (hr.mono (by decide)) rfl DLDraw.g DLDraw.F.kp DLDraw.b .nil pass0 (pa_cons (pv 0) (pa_cons pe_int pa_nil))) pe_int (nomark _)) (pe_ix ix_tup (pv 8) pe_int (fun _ _ => rfl)) (pv 3)))
      (Evl.pss_cut (ps_set (i := 4) scLVersion.nd rfl (Or.inl rfl) (pe_ifExp (pt_cmpR op_gt (pe_call GLDraw (hr.mono (by decide)) rfl DLDraw.g DLDraw.F.kp DLDraw.b .nil pass0 (pa_cons (pv 0) (pa_cons pe_int pa_nil))) pe_int (nomark _)) (pe_ix ix_tup (pv 8) pe_int (fun _ _ => rfl)) (pv 4)))
      (Evl.pss_cut (ps_set (i := 5) scLVersion.nd rfl (Or.inl rfl) (pe_ifExp (pt_cmpR op_gt (pe_call GLDraw (hr.mono (by decide)) rfl DLDraw.g DLDraw.F.kp DLDraw.b .nil pass0 (pa_cons (pv 0) (pa_cons pe_int pa_nil))) pe_int (nomark _)) (pe_ix ix_tup (pv 8) pe_int (fun _ _ => rfl)) (pv 5)))
      (pss_one (ps_set (i := 6) scLVersion.nd rfl (Or.inl rfl) (pe_ifExp (pt_cmpR op_gt (pe_call GLDraw (hr.mono (by decide)) rfl DLDraw.g DLDraw.F.kp DLDraw.b .nil pass0 (pa_cons (pv 0) (pa_cons pe_int pa_nil))) pe_int (nomark _)) (pe_ix ix_tup (pv 8) pe_int (fun _ _ => rfl)) (pv 6))))))))
    pss_nil)
    (pss_one (ps_ret (pe_tup (pa_cons (pv 3) (pa_cons (pv 4) (pa_cons (pv 5) (pa_cons (pv 2) (pa_cons (pe_ifExp (pt_cmpR op_eq (pv 2) pe_int (nomark _)) pe_int (pv 6)) pa_nil))))))))))), ?_⟩
  refine ⟨_, rfl, by show 6 ≤ sizeLine; decide, fun p hp => ?_⟩
  have D1 := Dk.new (o := .lst [.int 3, .int 3, .int 3, .int 0, .int 1, .int 2]) hp
  have k1 : Kp d l H _ := Kp.new (o := .lst [.int 3, .int 3, .int 3, .int 0, .int 1, .int 2]) hp
  refine ⟨d, l, p, _, rfl, D1, upd_same, Dk.free hp, by show 0 < 6; decide, by show 6 < 1000000; decide, fun H2 kv k2 D2 hk => ?_⟩
  have kk := k1.trans k2
  obtain ⟨kn, rfl, kn0, kn3⟩ : ∃ kn : Int, kv = .int kn ∧ 0 ≤ kn ∧ kn ≤ 3 := by
    simp only [List.mem_cons, List.not_mem_nil, or_false] at hk
    rcases hk with rfl | rfl | rfl | rfl | rfl | rfl
    all_goals exact ⟨_, rfl, by decide, by decide⟩
  clear hk k1 k2 D1
  refine ⟨_, rfl, by decide, by decide, fun L hL => lc_range (lo := 0) (n := 4) (fun i H' => ∃ rs : List Int, rs.length = i ∧ (∀ r ∈ rs, 0 ≤ r ∧ r ≤ 1000000000) ∧ H' L = some (.lst (rs.map V.int)) ∧ Kp d l H2 H' ∧ Deck d l H') ⟨[], rfl, by simp, upd_same, Kp.new hL, D2.new hL⟩ ?_ ?_⟩
  · rintro i H3 hi ⟨rs, e1, e2, e3, k3, D3⟩
    refine ⟨rfl, ?_⟩
    refine ⟨_, rfl, d, l, rfl, D3, fun H4 r k4 D4 r0 r1 => ?_⟩
    have nL : L ≠ l := D2.free hL
    have nd : L ≠ d := D3.nedl e3
    refine ⟨_, k4.lst D3 nL e3, by rw [List.length_map]; exact small1000 (by omega), rs ++ [r], by rw [List.length_append, e1]; rfl, ?_, by rw [upd_same, List.map_append]; rfl, ?_, D4.mut nd nL⟩
    · intro r' hr'
      rcases List.mem_append.mp hr' with q | q
      · exact e2 _ q
      · rw [List.mem_singleton.mp q]
        exact ⟨r0, r1⟩
    · exact (k3.trans k4).out hL
  · rintro H3 ⟨rs, e1, e2, e3, k3, D3⟩
    obtain ⟨a, b, c, n, rfl⟩ : ∃ a b c n, rs = [a, b, c, n] := by
      match rs, e1 with
      | [a, b, c, n], _ => exact ⟨a, b, c, n, rfl⟩
    have ha := e2 a (by simp)
    have hb := e2 b (by simp)
    have hc := e2 c (by simp)
    have hn := e2 n (by simp)
    clear e2
    refine ⟨L, _, rfl, SqL.of e3, rfl, _, _, rfl, _, _, rfl, _, _, rfl, _, _, rfl, rfl, ?_⟩
    have k5 := kk.trans k3
    have hs5 := k5.lst Dk nsl hs
    have hv5 : ∀ v ∈ xs, VV K B H3 v := fun v q => (hv v q).kp k5 Dk
    refine ⟨fun σ' H' => ∃ (a b c n : Int) (v7 v8 : Option V), σ' = [some (.ref d), some (.ref s), some (.int kn), some (.int a), some (.int b), some (.int c), some (.int n), v7, v8] ∧ (0 ≤ a ∧ a ≤ B) ∧ (0 ≤ b ∧ b ≤ B) ∧ (0 ≤ c ∧ c ≤ B) ∧ (0 ≤ n ∧ n ≤ B) ∧ Kp d l H H' ∧ Deck d l H', ?_, ?_⟩
    · refine ⟨_, rfl, Nat.zero_le _, fun q hq => ?_⟩
      have D6 := D3.new (o := .lst []) hq
      have k6 := k5.trans (Kp.new (o := .lst []) hq)
      have hs6 := (Kp.new (d := d) (l := l) (o := .lst []) hq).lst D3 nsl hs5
      have hv6 : ∀ v ∈ xs, VV K B (upd H3 q (.lst [])) v := fun v z => (hv5 v z).same (TKp.new hq)
      refine neNil (SqL.of hs6) (SqL.of upd_same) (shp_vv hv6) ⟨_, rfl, ?_⟩
      cases xs with
      | nil => exact iteF (iteF ⟨a, b, c, n, _, _, rfl, by omega, by omega, by omega, by omega, k6, D6⟩)
      | cons x0 xr =>
        refine iteT ?_
        refine ⟨_, rfl, d, l, _, rfl, D6, by decide, by decide, fun H7 r k7 D7 r0 r1 => ⟨_, _, rfl, rfl, _, rfl, ?_⟩⟩
        have kk7 := k6.trans k7
        refine ite2 (fun _ => ?_) (fun _ => ⟨a, b, c, n, _, _, rfl, by omega, by omega, by omega, by omega, kk7, D7⟩)
        refine ⟨_, rfl, _, rfl, d, l, s, _, rfl, D7, k7.lst D6 nsl hs6, nsl, by simp, hl, fun H8 u k8 D8 hu => ?_⟩
        obtain ⟨x, ⟨ax, rfl, hx⟩, z0, z1, z2, z3, z4, rfl, w1, w2, w3, w4, w5, w6, w7, w8, w9, w10, w11⟩ := (hv6 u hu).kp (k7.trans k8) D6
        have kk8 := kk7.trans k8
        clear kk7 k7 k8 hv6 hv5 hv k6 D6 D7 hs6 hs5 k5
        have at0 : atI ([z0, z1, z2, z3, z4].map V.int) 0 = some (.int z0) := atI_nat rfl
        have at1 : atI ([z0, z1, z2, z3, z4].map V.int) 1 = some (.int z1) := atI_nat rfl
        have at2 : atI ([z0, z1, z2, z3, z4].map V.int) 2 = some (.int z2) := atI_nat rfl
        have at4 : atI ([z0, z1, z2, z3, z4].map V.int) 4 = some (.int z4) := atI_nat rfl
        let M : L2.St → Hp → Prop := fun σ' H' => ∃ (a b c n : Int) (v7 : Option V), σ' = [some (.ref d), some (.ref s), some (.int kn), some (.int a), some (.int b), some (.int c), some (.int n), v7, some (.ref ax)] ∧ (0 ≤ a ∧ a ≤ B) ∧ (0 ≤ b ∧ b ≤ B) ∧ (0 ≤ c ∧ c ≤ B) ∧ (0 ≤ n ∧ n ≤ B) ∧ Kp d l H H' ∧ Deck d l H' ∧ SqT K H' ax ([z0, z1, z2, z3, z4].map V.int)
        refine ⟨M, ?_, ?_⟩
        · refine ⟨_, rfl, d, l, _, rfl, D8, by decide, by decide, fun H9 r9 k9 D9 _ _ => ⟨_, _, rfl, rfl, _, rfl, ?_⟩⟩
          refine ite2 (fun _ => ⟨_, rfl, ax, _, _, _, rfl, rfl, (k9.tupS D8 hx), at0, ?_⟩) (fun _ => ⟨_, rfl, ?_⟩)
          · exact ⟨z0, b, c, n, _, rfl, by omega, by omega, by omega, by omega, kk8.trans k9, D9, k9.tupS D8 hx⟩
          · exact ⟨a, b, c, n, _, rfl, by omega, by omega, by omega, by omega, kk8.trans k9, D9, k9.tupS D8 hx⟩
        rintro σ' H8 ⟨a, b, c, n, v7, rfl, ha, hb, hc, hn, kk8, D8, hx⟩
        refine ⟨M, ?_, ?_⟩
        · refine ⟨_, rfl, d, l, _, rfl, D8, by decide, by decide, fun H9 r9 k9 D9 _ _ => ⟨_, _, rfl, rfl, _, rfl, ?_⟩⟩
          refine ite2 (fun _ => ⟨_, rfl, ax, _, _, _, rfl, rfl, (k9.tupS D8 hx), at1, ?_⟩) (fun _ => ⟨_, rfl, ?_⟩)
          · exact ⟨a, z1, c, n, _, rfl, by omega, by omega, by omega, by omega, kk8.trans k9, D9, k9.tupS D8 hx⟩
          · exact ⟨a, b, c, n, _, rfl, by omega, by omega, by omega, by omega, kk8.trans k9, D9, k9.tupS D8 hx⟩
        rintro σ' H8 ⟨a, b, c, n, v7, rfl, ha, hb, hc, hn, kk8, D8, hx⟩
        refine ⟨M, ?_, ?_⟩
        · refine ⟨_, rfl, d, l, _, rfl, D8, by decide, by decide, fun H9 r9 k9 D9 _ _ => ⟨_, _, rfl, rfl, _, rfl, ?_⟩⟩
          refine ite2 (fun _ => ⟨_, rfl, ax, _, _, _, rfl, rfl, (k9.tupS D8 hx), at2, ?_⟩) (fun _ => ⟨_, rfl, ?_⟩)
          · exact ⟨a, b, z2, n, _, rfl, by omega, by omega, by omega, by omega, kk8.trans k9, D9, k9.tupS D8 hx⟩
          · exact ⟨a, b, c, n, _, rfl, by omega, by omega, by omega, by omega, kk8.trans k9, D9, k9.tupS D8 hx⟩
        rintro σ' H8 ⟨a, b, c, n, v7, rfl, ha, hb, hc, hn, kk8, D8, hx⟩
        refine ⟨_, rfl, d, l, _, rfl, D8, by decide, by decide, fun H9 r9 k9 D9 _ _ => ⟨_, _, rfl, rfl, _, rfl, ?_⟩⟩
        refine ite2 (fun _ => ⟨_, rfl, ax, _, _, _, rfl, rfl, (k9.tupS D8 hx), at4, ?_⟩) (fun _ => ⟨_, rfl, ?_⟩)
        · exact ⟨a, b, c, z4, _, _, rfl, by omega, by omega, by omega, by omega, kk8.trans k9, D9⟩
        · exact ⟨a, b, c, n, _, _, rfl, by omega, by omega, by omega, by omega, kk8.trans k9, D9⟩
    · rintro σ' H' ⟨a, b, c, n, v7, v8, rfl, g1, g2, g3, g4, g5, D9⟩
      refine ⟨_, rfl, _, rfl, _, rfl, _, rfl, _, rfl, rfl, _, rfl, ?_⟩
      refine ite2 (fun e => ⟨by show 5 ≤ sizeLine; decide, fun p hp => ?_⟩) (fun e => ⟨_, rfl, by show 5 ≤ sizeLine; decide, fun p hp => ?_⟩)
      · exact k _ _ (g5.trans (Kp.new hp)) (D9.new hp) ⟨[a, b, c, kn, 0], ⟨p, rfl, SqT.of upd_same⟩, a, b, c, kn, 0, rfl, by omega, by omega, by omega, by omega, by omega, by omega, by omega, by omega, by omega, by omega, fun _ => rfl⟩
      · have ek : kn ≠ 3 := fun z => e (decide_eq_true (by rw [z]))
        exact k _ _ (g5.trans (Kp.new hp)) (D9.new hp) ⟨[a, b, c, kn, n], ⟨p, rfl, SqT.of upd_same⟩, a, b, c, kn, n, rfl, by omega, by omega, by omega, by omega, by omega, by omega, by omega, by omega, by omega, by omega, fun z => absurd z ek⟩
end
def spLNext (K : PySem.W.Frag) : Sp := fun vs H Q _ => ∃ (a : Addr) (x : List Int) (B : Int), vs = [.ref a] ∧ SqT K H a (x.map V.int) ∧ Ver B x ∧ ∀ p, H p = none → Q (.ref p) (upd H p (.tup ((nxt x).map V.int)))
def spLVersions (K : PySem.W.Frag) : Sp := fun vs H Q _ => ∃ (d l : Addr) (n : Nat), vs = [.ref d, .int (n : Int)] ∧ Deck d l H ∧ n ≤ 100 ∧ ∀ (H' : Hp) (p : Addr) (xs : List V), Kp d l H H' → Deck d l H' → H p = none → H' p = some (.lst xs) → xs.length = n → (∀ v ∈ xs, VV K (1000000000 + (n : Int)) H' v) → Q (.ref p) H'
section
variable {P : Program} {w : World} {K : PySem.W.Frag} {mg : Str → Option Value} {base : Heap}
theorem ok_LNext {f : Addr} {fd : FuncData} (Z : Blt K mg) (D : DefAt K mg "_law_next" sLNext pLNext f fd) : FnOk P w K mg base CX0 1 f fd pLNext (spLNext K) := by
  refine D.F.ok scLNext (fun vs H Q E h => ?_) (fun cdv A outer s0 H vs Q E hr h => ?_)
  · obtain ⟨a, x, B, rfl, _⟩ := h
    rfl
  have hu := hu_of hr
  obtain ⟨a, x, B, rfl, ha, hx, k⟩ := h
  refine ⟨_, (pss_cons (ps_asg (pv 0) (pg_tup rfl (pgs_cons (pg_name (i := 1) scLNext.nd rfl (Or.inl rfl)) (pgs_cons (pg_name (i := 2) scLNext.nd rfl (Or.inl rfl)) (pgs_cons (pg_name (i := 3) scLNext.nd rfl (Or.inl rfl)) (pgs_cons (pg_name (i := 4) scLNext.nd rfl (Or.inl rfl)) (pgs_cons (pg_name (i := 5) scLNext.nd rfl (Or.inl rfl)) pgs_nil)))))))
    (pss_one (ps_ret (pe_ifExp (pt_cmpR op_lt (pv 4) pe_int (nomark _)) (pe_tup (pa_cons (pv 1) (pa_cons (pv 2) (pa_cons (pv 3) (pa_cons (pv 4) (pa_cons (pe_op op_add (pv 5) pe_int) pa_nil)))))) (pe_tup (pa_cons (pv 1) (pa_cons (pv 2) (pa_cons (pe_op op_add (pv 3) pe_int) (pa_cons pe_int (pa_cons pe_int pa_nil)))))))))), ?_⟩
  obtain ⟨z0, z1, z2, z3, z4, rfl, h1, h2, h3, h4, h5, h6, h7, h8, h9, h10, h11⟩ := hx
  refine ⟨_, rfl, a, _, rfl, ha, rfl, _, _, rfl, _, _, rfl, _, _, rfl, _, _, rfl, _, _, rfl, rfl, _, rfl, _, _, rfl, rfl, _, rfl, ?_⟩
  refine ite2 (fun e => ?_) (fun e => ?_)
  · have e := of_decide_eq_true e
    refine ⟨_, rfl, _, rfl, _, rfl, _, rfl, _, rfl, _, _, rfl, rfl, by show 5 ≤ sizeLine; decide, fun p hp => ?_⟩
    have q := k p hp
    have eq : nxt [z0, z1, z2, z3, z4] = [z0, z1, z2, z3, z4 + 1] := if_pos e
    rw [eq] at q
    exact q
  · have e : ¬ z3 < 3 := fun z => e (decide_eq_true z)
    refine ⟨_, rfl, _, rfl, _, rfl, _, _, rfl, rfl, by show 5 ≤ sizeLine; decide, fun p hp => ?_⟩
    have q := k p hp
    have eq : nxt [z0, z1, z2, z3, z4] = [z0, z1, z2 + 1, 0, 0] := if_neg e
    rw [eq] at q
    exact q
theorem ok_LVersions {f : Addr} {fd : FuncData} {fLDraw : Addr} {fdLDraw : FuncData} {fLNext : Addr} {fdLNext : FuncData} {fLPick : Addr} {fdLPick : FuncData} {fLVersion : Addr} {fdLVersion : FuncData} (Z : Blt K mg) (D : DefAt K mg "_law_versions" sLVersions pLVersions f fd) (DLDraw : DefAt K mg "_law_draw" sLDraw pLDraw fLDraw fdLDraw) (GLDraw : FnOk P w K mg base CX0 1 fLDraw fdLDraw pLDraw spLDraw) (DLNext : DefAt K mg "_law_next" sLNext pLNext fLNext fdLNext) (GLNext : FnOk P w K mg base CX0 1 fLNext fdLNext pLNext (spLNext K)) (DLPick : DefAt K mg "_law_pick" sLPick pLPick fLPick fdLPick) (GLPick : FnOk P w K mg base CX0 2 fLPick fdLPick pLPick spLPick) (DLVersion : DefAt K mg "_law_version" sLVersion pLVersion fLVersion fdLVersion) (GLVersion : FnOk P w K mg base CX0 4 fLVersion fdLVersion pLVersion (spLVersion K)) : FnOk P w K mg base CX0 5 f fd pLVersions (spLVersions K) := by
  refine D.F.ok scLVersions (fun vs H Q E h => ?_) (fun cdv A outer s0 H vs Q E hr h => ?_)
  · obtain ⟨d, l, n, rfl, _⟩ := h
    rfl
  have hu := hu_of hr
  obtain ⟨d, l, n, rfl, Dk, hn, k⟩ := h
  refine ⟨_, (pss_cons (ps_set (i := 2) scLVersions.nd rfl (Or.inl rfl) (pe_lst pa_nil))
    (pss_cons (ps_for PassesOwn.never rfl (pi_range1 (by rfl) Z.range (pa_cons (pv 1) pa_nil)) (pg_name (i := 3) scLVersions.nd rfl (Or.inl rfl))
    (pss_cons (ps_set (i := 4) scLVersions.nd rfl (Or.inl rfl) (pe_call GLVersion (hr.mono (by decide)) rfl DLVersion.g DLVersion.F.kp DLVersion.b .nil pass0 (pa_cons (pv 0) (pa_cons (pv 2) pa_nil))))
      (Evl.pss_cut (ps_if (PW.pt (pw_and (pt_cmpR (op_neD hr.units) (pv 2) (pe_lst pa_nil) (nomark _)) (pw_and1 (pt_cmpR op_eq (pe_call GLDraw (hr.mono (by decide)) rfl DLDraw.g DLDraw.F.kp DLDraw.b .nil pass0 (pa_cons (pv 0) (pa_cons pe_int pa_nil))) pe_int (nomark _)))))
      (pss_one (ps_set (i := 4) scLVersions.nd rfl (Or.inl rfl) (pe_call GLNext (hr.mono (by decide)) rfl DLNext.g DLNext.F.kp DLNext.b .nil pass0 (pa_cons (pe_call GLPick (hr.mono (by decide)) rfl DLPick.g DLPick.F.kp DLPick.b .nil pass0 (pa_cons (pv 0) (pa_cons (pv 2) pa_nil))) pa_nil))))
      pss_nil)
      (pss_one (ps_expr (pe_bm PySem.F.plainAttrs_list PySem.F.slot_list_append PySem.F.type_list_append mt_append (pv 2) (pa_cons (pv 4) pa_nil)))))))
    (pss_one (ps_ret (pv 2))))), ?_⟩
  refine ⟨Nat.zero_le _, fun p hp => ?_⟩
  have npl := Dk.free hp
  refine ⟨_, rfl, _, rfl, by omega, by omega, for_range (lo := 0) (n := n) (fun i σ H' => ∃ (xs : List V) (v3 v4 : Option V), σ = [some (.ref d), some (.int (n : Int)), some (.ref p), v3, v4] ∧ H' p = some (.lst xs) ∧ xs.length = i ∧ (∀ v ∈ xs, VV K (1000000000 + (i : Int)) H' v) ∧ Kp d l H H' ∧ Deck d l H') ⟨[], _, _, rfl, upd_same, rfl, by simp, Kp.new hp, Dk.new hp⟩ ?_ ?_⟩
  · rintro i σ H1 hi ⟨xs, v3, v4, rfl, e1, e2, e3, k1, D1⟩
    refine ⟨_, rfl, _, rfl, d, l, p, xs, 1000000000 + (i : Int), rfl, D1, e1, npl, by omega, by omega, e3, fun H2 v k2 D2 hv => ?_⟩
    have e1' := k2.lst D1 npl e1
    have e3' : ∀ v ∈ xs, VV K (1000000000 + (i : Int)) H2 v := fun u hu => (e3 u hu).kp k2 D1
    have kk := k1.trans k2
    clear e1 e3 k1 k2 D1
    refine ⟨fun σ' H' => ∃ v, σ' = [some (.ref d), some (.int (n : Int)), some (.ref p), some (.int (0 + (i : Int))), some v] ∧ H' p = some (.lst xs) ∧ (∀ v ∈ xs, VV K (1000000000 + (i : Int)) H' v) ∧ Kp d l H H' ∧ Deck d l H' ∧ VV K (1000000000 + (i : Int) + 1) H' v, ?_, ?_⟩
    · refine ⟨_, rfl, Nat.zero_le _, fun q hq => ?_⟩
      have s3 := (Kp.new (d := d) (l := l) (o := .lst []) hq)
      have D3 := D2.new (o := .lst []) hq
      have e4 := s3.lst D2 npl e1'
      have e5 : ∀ v ∈ xs, VV K (1000000000 + (i : Int)) (upd H2 q (.lst [])) v := fun u hu => (e3' u hu).kp s3 D2
      refine neNil (SqL.of e4) (SqL.of upd_same) (shp_vv e5) ⟨_, rfl, ?_⟩
      have k3 := kk.trans s3
      have hv3 := (hv.kp s3 D2).mono (show 1000000000 + (i : Int) ≤ 1000000000 + (i : Int) + 1 by omega)
      cases xs with
      | nil => exact iteF (iteF ⟨v, rfl, e4, e5, k3, D3, hv3⟩)
      | cons x0 xr =>
        refine iteT ?_
        refine ⟨_, rfl, d, l, _, rfl, D3, by decide, by decide, fun H4 r k4 D4 _ _ => ⟨rfl, _, rfl, ?_⟩⟩
        have e6 := k4.lst D3 npl e4
        have e7 : ∀ v ∈ x0 :: xr, VV K (1000000000 + (i : Int)) H4 v := fun u hu => (e5 u hu).kp k4 D3
        refine ite2 (fun _ => ?_) (fun _ => ⟨v, rfl, e6, e7, k3.trans k4, D4, hv3.kp k4 D3⟩)
        refine ⟨_, rfl, _, rfl, d, l, p, _, rfl, D4, e6, npl, by simp, by simp only [List.length_cons] at e2 ⊢; omega, fun H5 u k5 D5 hu => ?_⟩
        obtain ⟨x, ⟨ax, rfl, hx⟩, hb⟩ := (e7 u hu).kp k5 D4
        refine ⟨ax, x, _, rfl, hx, hb, fun t ht => ?_⟩
        have s5 := (Kp.new (d := d) (l := l) (o := .tup ((nxt x).map V.int)) ht)
        refine ⟨_, rfl, s5.lst D5 npl (k5.lst D4 npl e6), fun u hu => ((e7 u hu).kp k5 D4).kp s5 D5, ((k3.trans k4).trans k5).trans s5, D5.new ht, _, ⟨t, rfl, SqT.of upd_same⟩, hb.nxt⟩
    · rintro σ' H3 ⟨v, rfl, e4, e5, k3, D3, hv⟩
      refine ⟨_, rfl, .inl ⟨rfl, _, SqL.of e4⟩, _, rfl, p, _, _, rfl, rfl, e4, small1000 (by omega), ?_⟩
      refine ⟨_, _, _, rfl, upd_same, by rw [List.length_append, e2]; rfl, ?_, k3.out hp, D3.mut (D3.nedl e4) npl⟩
      intro u hu
      rcases List.mem_append.mp hu with z | z
      · exact ((e5 u z).same (TKp.mut e4)).mono (by omega)
      · rw [List.mem_singleton.mp z]
        exact (hv.same (TKp.mut e4)).mono (by omega)
  · rintro σ H1 ⟨xs, v3, v4, rfl, e1, e2, e3, k1, D1⟩
    exact ⟨_, rfl, k _ p xs k1 D1 hp e1 e2 e3⟩
end
abbrev sLDeck : Stmt := top 23
abbrev nLDeck : List Str := ["_law_script", "_law_mixed", "_law_cell"]
abbrev pLDeck : List Str := ["_law_script"]
theorem scLDeck : FnScope nLDeck pLDeck (defScope sLDeck) := ⟨rfl, rfl, rfl, by decide +kernel, rfl, by decide +kernel, by decide +kernel⟩
def spLDeck (K : PySem.W.Frag) : Sp := fun vs H Q _ => ∃ (a : Addr) (ns : List Int), vs = [.ref a] ∧ SqL K H a (ns.map V.int) ∧ ns.length ≤ 63 ∧ ∀ (H' : Hp) (d l : Addr), Same H H' → H d = none → H l = none → Deck d l H' → Q (.ref d) H'
section
variable {P : Program} {w : World} {K : PySem.W.Frag} {mg : Str → Option Value} {base : Heap}
theorem ok_LDeck {f : Addr} {fd : FuncData} (Z : Blt K mg) (D : DefAt K mg "_law_deck" sLDeck pLDeck f fd) : FnOk P w K mg base CX0 1 f fd pLDeck (spLDeck K) := by
  refine D.F.ok scLDeck (fun vs H Q E h => ?_) (fun cdv A outer s0 H vs Q E hr h => ?_)
  · obtain ⟨a, ns, rfl, _⟩ := h
    rfl
  have hu := hu_of hr
  obtain ⟨a, ns, rfl, ha, hl, k⟩ := h
  refine ⟨_, (pss_cons (ps_set (i := 1) scLDeck.nd rfl (Or.inl rfl) pe_int)
    (pss_cons (ps_for PassesOwn.never rfl (pi_list (pe_slice sl_list (pv 0) po_none (po_some pe_int))) (pg_name (i := 2) scLDeck.nd rfl (Or.inl rfl))
    (pss_one (ps_set (i := 1) scLDeck.nd rfl (Or.inl rfl) (pe_op op_mod (pe_callTy call_int1 (by rfl) Z.int (by decide +kernel) (pa_cons (pe_op op_add (pe_op op_add (pe_op op_mul (pv 1) pe_int) (pe_op op_mod (pe_callTy call_int1 (by rfl) Z.int (by decide +kernel) (pa_cons (pv 2) pa_nil)) pe_int)) pe_int) pa_nil)) pe_int))))
    (pss_one (ps_ret (pe_disp (pps_cons pe_str (pe_revL (pe_lc (own := [("_law_cell", 2)]) (g := gName 2) (tt := tYes) rfl scLDeck.nd (pi_list (pe_slice sl_list (pv 0) po_none (po_some pe_int))) (blkOk_by (own := [("_law_cell", 2)]) (N := nLDeck) (sc := defScope sLDeck) (by decide +kernel)) (fun _ _ _ _ _ => (pg_name (i := 2) scLDeck.nd rfl (Or.inl rfl))) (fun _ _ _ _ _ => pts_nil) (fun _ _ _ _ _ => (pe_callTy call_int1 (by rfl) Z.int (by decide +kernel) (pa_cons (pv 2) pa_nil))))) (pps_cons pe_str (pv 1) (pps_cons pe_str pe_int pps_nil))) (by rfl) (by rfl) (fun z => by cases z) (by decide)))))), ?_⟩
  obtain ⟨ms, em, lm⟩ := cutV_map ns none (some 63)
  refine ⟨_, rfl, 63, rfl, a, _, rfl, ha, fun p hp => ?_⟩
  rw [em]
  have s1 : Same H (upd H p (.lst (ms.map V.int))) := Same.new hp
  have hp1 : upd H p (.lst (ms.map V.int)) p = some (.lst (ms.map V.int)) := upd_same
  generalize upd H p (.lst (ms.map V.int)) = H1 at *
  refine ⟨p, rfl, ⟨_, SqL.of hp1⟩, for_list (K := K) (a := p) (xs := ms.map V.int) (fun i σ H' => ∃ (m : Int) (v : Option V), σ = [some (.ref a), some (.int m), v] ∧ 0 ≤ m ∧ m < 2147483647 ∧ Same H1 H') ⟨_, none, rfl, by decide, by decide, Same.refl _⟩ (fun i σ H' _ ⟨_, _, _, _, _, s⟩ => SqL.of (s _ _ hp1)) ?_ ?_⟩
  · rintro i y σ H' hi ⟨m, v, rfl, m0, m1, s2⟩
    obtain ⟨z, _, rfl⟩ := map_get hi
    refine ⟨_, rfl, _, _, rfl, rfl, .inr (by decide), _, rfl, .inl ⟨_, rfl, _, _, rfl, rfl, (by show (0 : Int) < 2147483629; decide), _, _, rfl, rfl, _, _, rfl, rfl, .inl ⟨_, rfl, _, _, rfl, rfl, (by show (0 : Int) < 2147483647; decide), ?_⟩⟩⟩
    exact ⟨_, _, rfl, Int.emod_nonneg _ (by decide), Int.emod_lt_of_pos _ (by decide), s2⟩
  · rintro σ H2 ⟨m, v, rfl, m0, m1, s2⟩
    have s3 := s1.trans s2
    intro d hd
    have s4 : Same H2 (upd H2 d (.dK [])) := Same.new hd
    have hd4 : upd H2 d (.dK []) d = some (.dK []) := upd_same
    have s5 := s3.trans s4
    generalize upd H2 d (.dK []) = H4 at *
    refine ⟨_, rfl, 63, rfl, a, _, rfl, s5.seq ha, fun q hq => ?_⟩
    rw [em]
    have s6 : Same H4 (upd H4 q (.lst (ms.map V.int))) := Same.new hq
    have hq6 : upd H4 q (.lst (ms.map V.int)) q = some (.lst (ms.map V.int)) := upd_same
    generalize upd H4 q (.lst (ms.map V.int)) = H6 at *
    refine ⟨q, rfl, ⟨_, SqL.of hq6⟩, fun L hL => lc_list (K := K) (a := q) (xs := ms.map V.int) (fun i H' => ∃ rs : List Int, rs.length = i ∧ H' L = some (.lst (rs.map V.int)) ∧ Same H6 H') ⟨[], rfl, upd_same, Same.new hL⟩ (fun i H' _ ⟨_, _, _, s⟩ => SqL.of (s _ _ hq6)) ?_ ?_⟩
    · rintro i y H7 hi ⟨rs, e1, e2, s7⟩
      obtain ⟨z, hz, rfl⟩ := map_get hi
      refine ⟨rfl, ?_⟩
      refine ⟨_, rfl, .inl ⟨_, rfl, rs.map V.int, e2, ?_, rs ++ [z], by rw [List.length_append, e1]; rfl, by rw [upd_same, List.map_append]; rfl, Same.out s7 hL⟩⟩
      have := (List.getElem?_eq_some_iff.mp hz).1
      rw [List.length_map]
      exact small1000 (by omega)
    · rintro H7 ⟨rs, e1, e2, s7⟩
      refine ⟨L, _, rfl, SqL.of e2, fun l hl7 => ?_⟩
      have s8 : Same H7 (upd H7 l (.lst (rs.map V.int).reverse)) := Same.new hl7
      refine ⟨_, rfl, ?_⟩
      have hd8 := s8 _ _ (s7 _ _ (s6 _ _ hd4))
      refine ⟨hd8, dkv l m 0, rfl, by show 3 ≤ 15; decide, ?_⟩
      rw [merge_dkv]
      have nld : l ≠ d := (ne_of_none (s7 _ _ (s6 _ _ hd4)) hl7).symm
      have hdH : H d = none := s3.free hd
      refine k _ d l ?_ hdH (((s5.trans s6).trans s7).free hl7) ⟨rs.reverse, m, 0, upd_same, ?_, ?_, m0, m1⟩
      · exact Same.out (((s5.trans s6).trans s7).trans s8) hdH
      · rw [upd_ne nld, upd_same, List.map_reverse]
      · rw [List.length_reverse, e1, List.length_map]
        omega
end

abbrev sIsInteger : Stmt := top 12
abbrev nIsInteger : List Str := ["thing"]
abbrev pIsInteger : List Str := ["thing"]
theorem scIsInteger : FnScope nIsInteger pIsInteger (defScope sIsInteger) := ⟨rfl, rfl, rfl, by decide +kernel, rfl, by decide +kernel, by decide +kernel⟩
abbrev sIsVersion : Stmt := top 16
abbrev nIsVersion : List Str := ["thing", "item", "sort", "number"]
abbrev pIsVersion : List Str := ["thing"]
theorem scIsVersion : FnScope nIsVersion pIsVersion (defScope sIsVersion) := ⟨rfl, rfl, rfl, by decide +kernel, rfl, by decide +kernel, by decide +kernel⟩
abbrev sCheckVersion : Stmt := top 17
abbrev nCheckVersion : List Str := ["version"]
abbrev pCheckVersion : List Str := ["version"]
theorem scCheckVersion : FnScope nCheckVersion pCheckVersion (defScope sCheckVersion) := ⟨rfl, rfl, rfl, by decide +kernel, rfl, by decide +kernel, by decide +kernel⟩
def spIsInteger : Sp := fun vs H Q _ => ∃ (i : Int), vs = [.int i] ∧ Q (.bl true) H
def spIsVersion (K : PySem.W.Frag) : Sp := fun vs H Q _ => ∃ (a : Addr) (x : List Int) (B : Int), vs = [.ref a] ∧ SqT K H a (x.map V.int) ∧ Ver B x ∧ ∀ H', Same H H' → Q (.bl true) H'
def spCheckVersion (K : PySem.W.Frag) : Sp := fun vs H Q _ => ∃ (a : Addr) (x : List Int) (B : Int), vs = [.ref a] ∧ SqT K H a (x.map V.int) ∧ Ver B x ∧ ∀ H', Same H H' → Q .non H'
def spNextVersion (K : PySem.W.Frag) : Sp := fun vs H Q _ => ∃ (a : Addr) (x : List Int) (B : Int), vs = [.ref a] ∧ SqT K H a (x.map V.int) ∧ Ver B x ∧ ∀ H' p, Same H H' → H p = none → H' p = some (.tup ((nxt x).map V.int)) → Q (.ref p) H'
section
variable {P : Program} {w : World} {K : PySem.W.Frag} {mg : Str → Option Value} {base : Heap}
theorem ok_IsInteger {f : Addr} {fd : FuncData} (Z : Blt K mg) (D : DefAt K mg "is_integer" sIsInteger pIsInteger f fd) : FnOk P w K mg base CX0 1 f fd pIsInteger spIsInteger := by
  refine D.F.ok scIsInteger (fun vs H Q E h => ?_) (fun cdv A outer s0 H vs Q E hr h => ?_)
  · obtain ⟨i, rfl, _⟩ := h
    rfl
  have hu := hu_of hr
  obtain ⟨i, rfl, k⟩ := h
  refine ⟨_, (pss_one (ps_ret (pe_and (pe_callB call_isi (by rfl) Z.isinstance (by decide +kernel) (pa_cons (pv 0) (pa_cons (pe_bltn (v := .ty "int") (u := Value.type "int") (by rfl) Z.int (by decide +kernel) rfl) pa_nil))) (pe_one (pe_not (pe_callB call_isi (by rfl) Z.isinstance (by decide +kernel) (pa_cons (pv 0) (pa_cons (pe_bltn (v := .ty "bool") (u := Value.type "bool") (by rfl) Z.bool (by decide +kernel) rfl) pa_nil)))))))), ?_⟩
  exact ⟨_, rfl, _, _, _, _, true, rfl, .ty "int", .base (.int i), kit_ty (by decide +kernel), true, rfl, _, rfl, _, _, _, _, false, rfl, .ty "bool", .base (.int i), kit_ty (by decide +kernel), false, rfl, k⟩
theorem ok_IsVersion {f : Addr} {fd : FuncData} {fIsInteger : Addr} {fdIsInteger : FuncData} (Z : Blt K mg) (D : DefAt K mg "is_version" sIsVersion pIsVersion f fd) (DIsInteger : DefAt K mg "is_integer" sIsInteger pIsInteger fIsInteger fdIsInteger) (GIsInteger : FnOk P w K mg base CX0 1 fIsInteger fdIsInteger pIsInteger spIsInteger) : FnOk P w K mg base CX0 2 f fd pIsVersion (spIsVersion K) := by
  refine D.F.ok scIsVersion (fun vs H Q E h => ?_) (fun cdv A outer s0 H vs Q E hr h => ?_)
  · obtain ⟨a, x, B, rfl, _⟩ := h
    rfl
  have hu := hu_of hr
  obtain ⟨a, x, B, rfl, ha, hx, k⟩ := h
  refine ⟨_, (pss_cons (ps_if (PW.pt (pw_or (pt_not (pt_val (pe_callB call_isi (by rfl) Z.isinstance (by decide +kernel) (pa_cons (pv 0) (pa_cons (pe_bltn (v := .ty "tuple") (u := Value.type "tuple") (by rfl) Z.tuple (by decide +kernel) rfl) pa_nil))))) (pw_or1 (pt_cmpR op_ne (pe_callB call_len_seq (by rfl) Z.len (by decide +kernel) (pa_cons (pv 0) pa_nil)) pe_int (nomark _)))))
    (pss_one (ps_ret pe_bl))
    pss_nil)
    (pss_cons (ps_if (pt_not (pt_val (pe_callB (cr_all rfl) (by rfl) Z.all (by decide +kernel) (pa_cons (pe_lc (own := [("item", 1)]) (g := gName 1) (tt := tYes) rfl scIsVersion.nd (pi_tup (pv 0)) (blkOk_by (own := [("item", 1)]) (N := nIsVersion) (sc := defScope sIsVersion) (by decide +kernel)) (fun _ _ _ _ _ => (pg_name (i := 1) scIsVersion.nd rfl (Or.inl rfl))) (fun _ _ _ _ _ => pts_nil) (fun _ _ _ _ _ => (pe_and (pe_call GIsInteger (hr.mono (by decide)) rfl DIsInteger.g DIsInteger.F.kp DIsInteger.b .nil pass0 (pa_cons (pv 1) pa_nil)) (pe_one (pe_cmpR op_ge (pv 1) pe_int (nomark _)))))) pa_nil))))
    (pss_one (ps_ret pe_bl))
    pss_nil)
    (pss_cons (ps_asg (pe_slice sl_tupA (pv 0) (po_some pe_int) po_none) (pg_tup rfl (pgs_cons (pg_name (i := 2) scIsVersion.nd rfl (Or.inl rfl)) (pgs_cons (pg_name (i := 3) scIsVersion.nd rfl (Or.inl rfl)) pgs_nil))))
    (pss_one (ps_ret (pe_or (pe_cmpR op_lt (pv 2) (pe_globI rfl Z.g_WHOLE) (nomark _)) (pe_one (pe_and (pe_cmpR op_eq (pv 2) (pe_globI rfl Z.g_WHOLE) (nomark _)) (pe_one (pe_cmpR op_eq (pv 3) pe_int (nomark _))))))))))), ?_⟩
  have hlen := hx.len
  have hnn := hx.nonneg
  refine ⟨_, rfl, _, _, _, _, true, rfl, .ty "tuple", (tyx_tup ha), kit_ty (by decide +kernel), true, rfl, ?_⟩
  refine ⟨_, rfl, a, _, rfl, .inr ha, rfl, _, rfl, ?_⟩
  rw [List.length_map, hlen]
  refine iteF ?_
  refine ⟨_, rfl, a, rfl, ⟨_, ha⟩, fun L hL => lc_tup (K := K) (a := a) (xs := x.map V.int) (fun i H' => H' L = some (.lst ((List.replicate i true).map V.bl)) ∧ Same H H') ⟨upd_same, Same.new hL⟩ (fun i H' _ ⟨_, s⟩ => (tupS_same s ha)) ?_ ?_⟩
  · rintro i y H' hi ⟨e, s1⟩
    obtain ⟨z, hz, rfl⟩ := map_get hi
    refine ⟨rfl, ?_⟩
    have z0 := hnn z (List.mem_of_getElem? hz)
    have hi5 := (List.getElem?_eq_some_iff.mp hz).1
    refine ⟨_, rfl, z, rfl, true, rfl, _, rfl, _, _, rfl, rfl, _, e, by rw [List.length_map, List.length_replicate]; exact small1000 (by omega), ?_, Same.out s1 hL⟩
    have ez : decide (0 ≤ z) = true := decide_eq_true z0
    rw [upd_same]
    show some (HO.lst (_ ++ [V.bl (decide (0 ≤ z))])) = _
    rw [ez, ← rep_snoc, List.map_append]
    rfl
  · rintro H1 ⟨e, s1⟩
    refine ⟨L, _, rfl, SqL.of e, _, rfl, ?_⟩
    rw [rep_all]
    refine iteF ?_
    obtain ⟨z0, z1, z2, z3, z4, rfl, h1, h2, h3, h4, h5, h6, h7, h8, h9, h10, h11⟩ := hx
    refine ⟨_, rfl, 3, rfl, a, _, rfl, (tupS_same s1 ha), fun q => absurd q.1 (show ¬ HT.sIx 5 0 (some 3) = 0 by decide), fun _ p hp => ?_⟩
    refine ⟨p, _, rfl, SqT.of upd_same, rfl, _, _, rfl, _, _, rfl, rfl, ?_⟩
    have s2 := s1.trans (Same.new (o := .tup [.int z3, .int z4]) hp)
    refine ⟨_, rfl, _, _, rfl, rfl, _, rfl, ?_⟩
    refine ite2 (fun _ => k _ s2) (fun e1 => ?_)
    have e3 : z3 = 3 := by
      have : ¬ z3 < 3 := fun z => e1 (decide_eq_true z)
      omega
    have e4 := h11 e3
    subst e3 e4
    exact ⟨_, rfl, rfl, _, rfl, _, rfl, rfl, k _ s2⟩
theorem ok_CheckVersion {f : Addr} {fd : FuncData} {fIsVersion : Addr} {fdIsVersion : FuncData} (Z : Blt K mg) (D : DefAt K mg "check_version" sCheckVersion pCheckVersion f fd) (DIsVersion : DefAt K mg "is_version" sIsVersion pIsVersion fIsVersion fdIsVersion) (GIsVersion : FnOk P w K mg base CX0 2 fIsVersion fdIsVersion pIsVersion (spIsVersion K)) : FnOk P w K mg base CX0 3 f fd pCheckVersion (spCheckVersion K) := by
  refine D.F.ok scCheckVersion (fun vs H Q E h => ?_) (fun cdv A outer s0 H vs Q E hr h => ?_)
  · obtain ⟨a, x, B, rfl, _⟩ := h
    rfl
  have hu := hu_of hr
  obtain ⟨a, x, B, rfl, ha, hx, k⟩ := h
  refine ⟨_, (pss_one (ps_if (pt_not (pt_val (pe_call GIsVersion (hr.mono (by decide)) rfl DIsVersion.g DIsVersion.F.kp DIsVersion.b .nil pass0 (pa_cons (pv 0) pa_nil))))
    (pss_one ps_never)
    pss_nil)), ?_⟩
  exact ⟨_, rfl, a, x, B, rfl, ha, hx, fun H' s => ⟨_, rfl, iteF (k _ s)⟩⟩
end


abbrev sVersionText : Stmt := top 18
abbrev nVersionText : List Str := ["version", "a", "b", "c", "sort", "number"]
abbrev pVersionText : List Str := ["version"]
theorem scVersionText : FnScope nVersionText pVersionText (defScope sVersionText) := ⟨rfl, rfl, rfl, by decide +kernel, rfl, by decide +kernel, by decide +kernel⟩
theorem tx_app (l m : List Nat) : (Tx l ++ Tx m : Str) = Tx (l ++ m) := by
  show (⟨l.toArray ++ m.toArray⟩ : Str) = ⟨(l ++ m).toArray⟩
  simp
theorem tx_int {i : Int} (h : 0 ≤ i) : Str.ofString (toString i) = Tx (TL.numL i.toNat) := by
  obtain ⟨n, rfl⟩ := Int.eq_ofNat_of_zero_le h
  rw [tx_of (Str.ofString (toString (n : Int)))]
  exact congrArg Tx (TL.tl_num n)
theorem tx_empty (l : List Nat) : (Str.empty ++ Tx l : Str) = Tx l := tx_app [] l
theorem num_len {i : Int} (h : 0 ≤ i) (h2 : i < 10 ^ 13) : (TL.numL i.toNat).length ≤ 13 := TL.numL_len (by decide) (by omega)
/-- a version's text -/
def vtL : List Int → List Nat
  | [a, b, c, k, n] => TL.numL a.toNat ++ [46] ++ TL.numL b.toNat ++ [46] ++ TL.numL c.toNat ++ (if k = 3 then [] else [45] ++ sortsL.getD k.toNat [] ++ [46] ++ TL.numL n.toNat)
  | _ => []
theorem vtL_of (a b c k n : Int) : vtL [a, b, c, k, n] = TL.numL a.toNat ++ [46] ++ TL.numL b.toNat ++ [46] ++ TL.numL c.toNat ++ (if k = 3 then [] else [45] ++ sortsL.getD k.toNat [] ++ [46] ++ TL.numL n.toNat) := rfl
def spVersionText (K : PySem.W.Frag) : Sp := fun vs H Q _ => ∃ (a : Addr) (x : List Int) (B : Int), vs = [.ref a] ∧ SqT K H a (x.map V.int) ∧ Ver B x ∧ B ≤ 10000000000 ∧ ∀ H', Same H H' → Q (.str (Tx (vtL x))) H'
section
variable {P : Program} {w : World} {K : PySem.W.Frag} {mg : Str → Option Value} {base : Heap}
theorem ok_VersionText {f : Addr} {fd : FuncData} {fCheckVersion : Addr} {fdCheckVersion : FuncData} (Z : Blt K mg) {aS : Addr} (SO : SoC K mg aS) (D : DefAt K mg "version_text" sVersionText pVersionText f fd) (DCheckVersion : DefAt K mg "check_version" sCheckVersion pCheckVersion fCheckVersion fdCheckVersion) (GCheckVersion : FnOk P w K mg base CX0 3 fCheckVersion fdCheckVersion pCheckVersion (spCheckVersion K)) : FnOk P w K mg base CX0 4 f fd pVersionText (spVersionText K) := by
  refine D.F.ok scVersionText (fun vs H Q E h => ?_) (fun cdv A outer s0 H vs Q E hr h => ?_)
  · obtain ⟨a, x, B, rfl, _⟩ := h
    rfl
  have hu := hu_of hr
  obtain ⟨a, x, B, rfl, ha, hx, hB, k⟩ := h
  refine ⟨_, (pss_cons (ps_expr (pe_call GCheckVersion (hr.mono (by decide)) rfl DCheckVersion.g DCheckVersion.F.kp DCheckVersion.b .nil pass0 (pa_cons (pv 0) pa_nil)))
    (pss_cons (ps_asg (pv 0) (pg_tup rfl (pgs_cons (pg_name (i := 1) scVersionText.nd rfl (Or.inl rfl)) (pgs_cons (pg_name (i := 2) scVersionText.nd rfl (Or.inl rfl)) (pgs_cons (pg_name (i := 3) scVersionText.nd rfl (Or.inl rfl)) (pgs_cons (pg_name (i := 4) scVersionText.nd rfl (Or.inl rfl)) (pgs_cons (pg_name (i := 5) scVersionText.nd rfl (Or.inl rfl)) pgs_nil)))))))
    (pss_cons (ps_if (pt_cmpR op_eq (pv 4) (pe_globI rfl Z.g_WHOLE) (nomark _))
    (pss_one (ps_ret (pe_joined (.cons (pe_fmt (pv 1)) (.cons pe_str (.cons (pe_fmt (pv 2)) (.cons pe_str (.cons (pe_fmt (pv 3)) .nil))))))))
    pss_nil)
    (pss_one (ps_ret (pe_joined (.cons (pe_fmt (pv 1)) (.cons pe_str (.cons (pe_fmt (pv 2)) (.cons pe_str (.cons (pe_fmt (pv 3)) (.cons pe_str (.cons (pe_fmt (pe_ix ix_tup (pe_glob (v := .ref aS) rfl SO.g rfl) (pv 4) (fun _ _ => rfl))) (.cons pe_str (.cons (pe_fmt (pv 5)) .nil))))))))))))))), ?_⟩
  refine ⟨_, rfl, a, x, B, rfl, ha, hx, fun H1 s1 => ?_⟩
  obtain ⟨z0, z1, z2, z3, z4, rfl, h1, h2, h3, h4, h5, h6, h7, h8, h9, h10, h11⟩ := hx
  have n0 := num_len h1 (by omega)
  have n1 := num_len h3 (by omega)
  have n2 := num_len h5 (by omega)
  have n4 := num_len h9 (by omega)
  have dot : Str.ofString "." = Tx [46] := by decide +kernel
  have dash : Str.ofString "-" = Tx [45] := by decide +kernel
  have sz : ∀ l : List Nat, l.length ≤ 600 → (Tx l).length ≤ sizeLine := fun l h => by rw [tx_len]; exact Nat.le_of_lt (small1000 (by omega))
  have J1 : ∀ (te : TE) (ts : List TE) (l m : List Nat) (σ : L2.St) (Hx : Hp) (Qs : Str → Hp → Prop), (∀ Q' : VK, Q' (.str (Tx m)) Hx → te σ Hx Q') → (l ++ m).length ≤ 600 → tJs ts (Tx (l ++ m)) σ Hx Qs → tJs (te :: ts) (Tx l) σ Hx Qs := fun te ts l m σ Hx Qs g hs q => by
    refine g _ ⟨_, rfl, ?_, ?_⟩
    · rw [tx_app]; exact sz _ hs
    · rw [tx_app]; exact q
  have JI : ∀ (te : TE) (i : Int) (σ : L2.St) (Hx : Hp), 0 ≤ i → i < 10 ^ 13 → (∀ Q' : VK, Q' (.int i) Hx → te σ Hx Q') → ∀ Q' : VK, Q' (.str (Tx (TL.numL i.toNat))) Hx → tFmt te σ Hx Q' := fun te i σ Hx h0 h1 g Q' q => by
    refine g _ (.inr ⟨i, rfl, log_small h0 h1, ?_⟩)
    show Q' (.str (Str.ofString (toString i))) Hx
    rw [tx_int h0]
    exact q
  have JV : ∀ (i : Nat) (v : V) (σ : L2.St) (Hx : Hp), σ[i]? = some (some v) → ∀ Q' : VK, Q' v Hx → tVar i σ Hx Q' := fun i v σ Hx h Q' q => ⟨v, h, q⟩
  have JC : ∀ (s : Str) (m : List Nat) (σ : L2.St) (Hx : Hp), s = Tx m → ∀ Q' : VK, Q' (.str (Tx m)) Hx → tC (.str s) σ Hx Q' := fun s m σ Hx e Q' q => by rw [e]; exact q
  refine ⟨_, rfl, a, _, rfl, tupS_same s1 ha, rfl, _, _, rfl, _, _, rfl, _, _, rfl, _, _, rfl, _, _, rfl, rfl, ?_⟩
  refine ⟨_, rfl, rfl, _, rfl, ?_⟩
  by_cases q3 : z3 = 3
  · rw [decide_eq_true (show V.int z3 = V.int 3 by rw [q3])]
    refine iteT ?_
    show tJs _ (Tx []) _ _ _
    refine J1 _ _ _ _ _ _ _ (JI _ _ _ _ h1 (by omega) (JV 1 _ _ _ rfl)) (by simp only [List.length_append, List.length_cons, List.length_nil]; omega) ?_
    refine J1 _ _ _ _ _ _ _ (JC _ _ _ _ dot) (by simp only [List.length_append, List.length_cons, List.length_nil]; omega) ?_
    refine J1 _ _ _ _ _ _ _ (JI _ _ _ _ h3 (by omega) (JV 2 _ _ _ rfl)) (by simp only [List.length_append, List.length_cons, List.length_nil]; omega) ?_
    refine J1 _ _ _ _ _ _ _ (JC _ _ _ _ dot) (by simp only [List.length_append, List.length_cons, List.length_nil]; omega) ?_
    refine J1 _ _ _ _ _ _ _ (JI _ _ _ _ h5 (by omega) (JV 3 _ _ _ rfl)) (by simp only [List.length_append, List.length_cons, List.length_nil]; omega) ?_
    have q := k _ s1
    rw [vtL_of, if_pos q3, List.append_nil] at q
    exact q
  · rw [decide_eq_false (show ¬ V.int z3 = V.int 3 by intro z; injection z with z; exact q3 z)]
    refine iteF ?_
    obtain ⟨ws, hws, hw5⟩ : ∃ ws, sortsL[z3.toNat]? = some ws ∧ ws.length ≤ 5 := by
      have : z3 = 0 ∨ z3 = 1 ∨ z3 = 2 := by omega
      rcases this with e | e | e <;> subst e <;> exact ⟨_, rfl, by decide⟩
    show tJs _ (Tx []) _ _ _
    refine J1 _ _ _ _ _ _ _ (JI _ _ _ _ h1 (by omega) (JV 1 _ _ _ rfl)) (by simp only [List.length_append, List.length_cons, List.length_nil]; omega) ?_
    refine J1 _ _ _ _ _ _ _ (JC _ _ _ _ dot) (by simp only [List.length_append, List.length_cons, List.length_nil]; omega) ?_
    refine J1 _ _ _ _ _ _ _ (JI _ _ _ _ h3 (by omega) (JV 2 _ _ _ rfl)) (by simp only [List.length_append, List.length_cons, List.length_nil]; omega) ?_
    refine J1 _ _ _ _ _ _ _ (JC _ _ _ _ dot) (by simp only [List.length_append, List.length_cons, List.length_nil]; omega) ?_
    refine J1 _ _ _ _ _ _ _ (JI _ _ _ _ h5 (by omega) (JV 3 _ _ _ rfl)) (by simp only [List.length_append, List.length_cons, List.length_nil]; omega) ?_
    refine J1 _ _ _ _ _ _ _ (JC _ _ _ _ dash) (by simp only [List.length_append, List.length_cons, List.length_nil]; omega) ?_
    refine J1 _ _ _ ws _ _ _ (fun Q' q => ?_) (by simp only [List.length_append, List.length_cons, List.length_nil]; omega) ?_
    · refine ⟨_, rfl, aS, sortsV, z3, .str (Tx ws), rfl, rfl, SO.s _, ?_, .inl ⟨_, rfl, sz _ (by omega), q⟩⟩
      have e : z3 = ((z3.toNat : Nat) : Int) := by omega
      rw [e]
      exact atI_nat (by unfold sortsV; rw [List.getElem?_map, hws]; rfl)
    refine J1 _ _ _ _ _ _ _ (JC _ _ _ _ dot) (by simp only [List.length_append, List.length_cons, List.length_nil]; omega) ?_
    refine J1 _ _ _ _ _ _ _ (JI _ _ _ _ h9 (by omega) (JV 5 _ _ _ rfl)) (by simp only [List.length_append, List.length_cons, List.length_nil]; omega) ?_
    have q := k _ s1
    rw [vtL_of, if_neg q3, List.getD_eq_getElem?_getD, hws] at q
    simp only [List.append_assoc, List.nil_append] at q ⊢
    exact q
end


abbrev sLText : Stmt := top 30
abbrev nLText : List Str := ["_law_version_here", "_law_text_here", "_law_part"]
abbrev pLText : List Str := ["_law_version_here"]
theorem scLText : FnScope nLText pLText (defScope sLText) := ⟨rfl, rfl, rfl, by decide +kernel, rfl, by decide +kernel, by decide +kernel⟩
abbrev sLFigures : Stmt := top 31
abbrev nLFigures : List Str := ["_law_text_here", "_law_at", "_law_turn"]
abbrev pLFigures : List Str := ["_law_text_here", "_law_at"]
theorem scLFigures : FnScope nLFigures pLFigures (defScope sLFigures) := ⟨rfl, rfl, rfl, by decide +kernel, rfl, by decide +kernel, by decide +kernel⟩
def spLText (K : PySem.W.Frag) : Sp := fun vs H Q _ => ∃ (a : Addr) (x : List Int) (B : Int), vs = [.ref a] ∧ SqT K H a (x.map V.int) ∧ Ver B x ∧ B ≤ 10000000000 ∧ ∀ H', Same H H' → Q (.str (Tx (vtL x))) H'
/-- where a number ends as the law sees it -/
def lfig (t : List Nat) (i : Nat) : Nat := if t[i]? = some 48 then i + 1 else figs t i
def spLFigures : Sp := fun vs H Q _ => ∃ (t : List Nat) (i : Nat), vs = [.str (Tx t), .int (i : Int)] ∧ i ≤ t.length ∧ t.length ≤ 600 ∧ Q (.int (lfig t i : Nat)) H
section
variable {P : Program} {w : World} {K : PySem.W.Frag} {mg : Str → Option Value} {base : Heap}
theorem ok_LFigures {f : Addr} {fd : FuncData} (Z : Blt K mg) (D : DefAt K mg "_law_figures" sLFigures pLFigures f fd) : FnOk P w K mg base CX0 1 f fd pLFigures spLFigures := by
  refine D.F.ok scLFigures (fun vs H Q E h => ?_) (fun cdv A outer s0 H vs Q E hr h => ?_)
  · obtain ⟨t, i, rfl, _⟩ := h
    rfl
  have hu := hu_of hr
  obtain ⟨t, i, rfl, hi, ht, k⟩ := h
  refine ⟨_, (pss_cons (ps_if (pt_cmpR op_eq (pe_slice sl_str (pv 0) (po_some (pv 1)) (po_some (pe_op op_add (pv 1) pe_int))) pe_str (nomark _))
    (pss_one (ps_ret (pe_op op_add (pv 1) pe_int)))
    pss_nil)
    (pss_cons (ps_for PassesOwn.never rfl (pi_range1 (by rfl) Z.range (pa_cons (pe_callB call_len_str (by rfl) Z.len (by decide +kernel) (pa_cons (pv 0) pa_nil)) pa_nil)) (pg_name (i := 2) scLFigures.nd rfl (Or.inl rfl))
    (pss_cons (ps_if (PW.pt (pw_or (pt_cmpR op_eq (pe_slice sl_str (pv 0) (po_some (pv 1)) (po_some (pe_op op_add (pv 1) pe_int))) pe_str (nomark _)) (pw_or1 (pt_cmpR op_notin_str (pe_slice sl_str (pv 0) (po_some (pv 1)) (po_some (pe_op op_add (pv 1) pe_int))) pe_str (by rfl)))))
      (pss_one ps_break)
      pss_nil)
      (pss_one (ps_set (i := 1) scLFigures.nd rfl (Or.inl rfl) (pe_op op_add (pv 1) pe_int)))))
    (pss_one (ps_ret (pv 1))))), ?_⟩
  refine sgn_read rfl rfl hi ht ⟨rfl, _, rfl, ?_⟩
  rw [s_zero]
  by_cases h48 : t[i]? = some 48
  · rw [decide_eq_true (sgn_is.mpr h48)]
    refine iteT ?_
    refine ⟨_, rfl, _, _, rfl, rfl, ?_⟩
    unfold lfig at k
    rw [if_pos h48] at k
    exact k
  · rw [decide_eq_false (fun z => h48 (sgn_is.mp z))]
    refine iteF ?_
    unfold lfig at k
    rw [if_neg h48] at k
    refine ⟨_, rfl, Tx t, rfl, by rw [tx_len]; exact Nat.le_of_lt (small1000 (by omega)), t.length, by rw [tx_len], by omega, by omega, ?_⟩
    rw [Int.toNat_natCast]
    refine for_range (lo := 0) (n := t.length) (fun m σ H' => ∃ v2, H' = H ∧ σ = [some (.str (Tx t)), some (.int ((i + m : Nat) : Int)), v2] ∧ i + m ≤ t.length ∧ figs t (i + m) = figs t i) ⟨none, rfl, rfl, hi, rfl⟩ ?_ ?_
    · rintro m σ H' hm ⟨v2, rfl, rfl, hj, ef⟩
      refine sgn_read rfl rfl hj ht ⟨rfl, _, rfl, ?_⟩
      rw [s_none]
      cases hc : t[i + m]? with
      | none =>
        rw [decide_eq_true (sgn_empty.mpr hc)]
        refine iteT ?_
        refine iteT ?_
        have e : i + m = figs t i := by
          rw [← ef]
          exact (figs_stop fun c' h' => by rw [hc] at h'; cases h').symm
        refine ⟨_, rfl, ?_⟩
        show Q (.int ((i + m : Nat) : Int)) H'
        rw [e]
        exact k
      | some c =>
        rw [decide_eq_false (fun z => by rw [sgn_empty.mp z] at hc; cases hc)]
        refine iteF ?_
        refine sgn_read rfl rfl hj ht ⟨_, _, rfl, rfl, _, rfl, ?_⟩
        rw [sgn_some hc, occ_one]
        cases qd : dg c with
        | false =>
          refine iteT ?_
          have e : i + m = figs t i := by
            rw [← ef]
            exact (figs_stop fun c' h' => by rw [hc] at h'; injection h' with h'; rw [← h', qd]).symm
          refine ⟨_, rfl, ?_⟩
          show Q (.int ((i + m : Nat) : Int)) H'
          rw [e]
          exact k
        | true =>
          refine iteF ?_
          have hl := (List.getElem?_eq_some_iff.mp hc).1
          exact ⟨_, rfl, _, _, rfl, rfl, _, rfl, rfl, by omega, (figs_step hc qd).symm.trans ef⟩
    · rintro σ H' ⟨v2, rfl, rfl, hj, ef⟩
      have e : i + t.length = figs t i := by
        rw [← ef]
        exact (figs_stop fun c' h' => by have := (List.getElem?_eq_some_iff.mp h').1; omega).symm
      refine ⟨_, rfl, ?_⟩
      show Q (.int ((i + t.length : Nat) : Int)) H'
      rw [e]
      exact k
theorem sorts_lit : [V.str (Str.ofString "alpha"), V.str (Str.ofString "beta"), V.str (Str.ofString "rc")] = sortsV := by
  have e1 : Str.ofString "alpha" = Tx [97, 108, 112, 104, 97] := by decide +kernel
  have e2 : Str.ofString "beta" = Tx [98, 101, 116, 97] := by decide +kernel
  have e3 : Str.ofString "rc" = Tx [114, 99] := by decide +kernel
  rw [e1, e2, e3]
  rfl
theorem join3 (a b c : List Nat) : Txt.join (Tx [46]) [Tx a, Tx b, Tx c] = Tx (a ++ [46] ++ b ++ [46] ++ c) := by
  unfold Txt.join Builtin.Str.glued
  simp
theorem ok_LText {f : Addr} {fd : FuncData} (Z : Blt K mg) (D : DefAt K mg "_law_text" sLText pLText f fd) : FnOk P w K mg base CX0 1 f fd pLText (spLText K) := by
  refine D.F.ok scLText (fun vs H Q E h => ?_) (fun cdv A outer s0 H vs Q E hr h => ?_)
  · obtain ⟨a, x, B, rfl, _⟩ := h
    rfl
  have hu := hu_of hr
  obtain ⟨a, x, B, rfl, ha, hx, hB, k⟩ := h
  refine ⟨_, (pss_cons (ps_set (i := 1) scLText.nd rfl (Or.inl rfl) (pe_bm PySem.F.plainAttrs_str PySem.F.slot_str_join PySem.F.type_str_join mt_join pe_str (pa_cons (pe_lc (own := [("_law_part", 2)]) (g := gName 2) (tt := tYes) rfl scLText.nd (pi_tup (pe_slice sl_tupA (pv 0) po_none (po_some pe_int))) (blkOk_by (own := [("_law_part", 2)]) (N := nLText) (sc := defScope sLText) (by decide +kernel)) (fun _ _ _ _ _ => (pg_name (i := 2) scLText.nd rfl (Or.inl rfl))) (fun _ _ _ _ _ => pts_nil) (fun _ _ _ _ _ => (pe_callTy call_str_int (by rfl) Z.str (by decide +kernel) (pa_cons (pv 2) pa_nil)))) pa_nil)))
    (pss_one (ps_ret (pe_ifExp (pt_cmpR op_eq (pe_ix ix_tup (pv 0) pe_int (fun _ _ => rfl)) pe_int (nomark _)) (pv 1) (pe_op op_add_str (pe_op op_add_str (pe_op op_add_str (pe_op op_add_str (pv 1) pe_str) (pe_ix ix_tup (pe_tup (pa_cons pe_str (pa_cons pe_str (pa_cons pe_str pa_nil)))) (pe_ix ix_tup (pv 0) pe_int (fun _ _ => rfl)) (fun _ _ => rfl))) pe_str) (pe_callTy call_str_int (by rfl) Z.str (by decide +kernel) (pa_cons (pe_ix ix_tup (pv 0) pe_int (fun _ _ => rfl)) pa_nil))))))), ?_⟩
  obtain ⟨z0, z1, z2, z3, z4, rfl, h1, h2, h3, h4, h5, h6, h7, h8, h9, h10, h11⟩ := hx
  have n0 := num_len h1 (by omega)
  have n1 := num_len h3 (by omega)
  have n2 := num_len h5 (by omega)
  have n4 := num_len h9 (by omega)
  have ns : ∀ (j : Nat) (z : Int), [z0, z1, z2][j]? = some z → 0 ≤ z ∧ z < 10 ^ 13 := fun j z hz => by
    match j, hz with
    | 0, hz => obtain rfl := Option.some.inj hz; exact ⟨h1, by omega⟩
    | 1, hz => obtain rfl := Option.some.inj hz; exact ⟨h3, by omega⟩
    | 2, hz => obtain rfl := Option.some.inj hz; exact ⟨h5, by omega⟩
  have sz : ∀ l : List Nat, l.length ≤ 600 → (Tx l).length ≤ sizeLine := fun l h => by rw [tx_len]; exact Nat.le_of_lt (small1000 (by omega))
  have sz2 : ∀ l m : List Nat, l.length + m.length ≤ 600 → (Tx l).length + (Tx m).length ≤ sizeLine := fun l m h => by rw [tx_len, tx_len]; exact Nat.le_of_lt (small1000 (by omega))
  refine ⟨rfl, _, rfl, 3, rfl, a, _, rfl, ha, fun q => absurd q.2 (show ¬ HT.sIx 5 5 (some 3) = 5 by decide), fun _ p hp => ?_⟩
  have s1 : Same H (upd H p (.tup (cutV ([z0, z1, z2, z3, z4].map V.int) none (some 3)))) := Same.new hp
  have ep : (upd H p (.tup (cutV ([z0, z1, z2, z3, z4].map V.int) none (some 3)))) p = some (.tup ([z0, z1, z2].map V.int)) := upd_same
  refine ⟨p, rfl, ⟨_, SqT.of ep⟩, fun L hL => lc_tup (K := K) (a := p) (xs := [z0, z1, z2].map V.int) (fun i H' => H' L = some (.lst ((([z0, z1, z2].take i).map fun z => Tx (TL.numL z.toNat)).map V.str)) ∧ Same (upd H p (.tup (cutV ([z0, z1, z2, z3, z4].map V.int) none (some 3)))) H') ⟨upd_same, Same.new hL⟩ (fun i H' _ ⟨_, s⟩ => SqT.of (s _ _ ep)) ?_ ?_⟩
  · rintro i y H' hi ⟨e, s2⟩
    obtain ⟨z, hz, rfl⟩ := map_get hi
    obtain ⟨g0, g1⟩ := ns i z hz
    refine ⟨rfl, ?_⟩
    refine ⟨_, rfl, z, rfl, log_small g0 g1, _, e, by rw [List.length_map, List.length_map, List.length_take]; exact small1000 (by simp; omega), ?_, Same.out s2 hL⟩
    rw [upd_same, tx_int g0, List.take_add_one, hz]
    simp only [List.map_append, Option.toList, List.map_cons, List.map_nil]
  · rintro H1 ⟨e, s2⟩
    have s3 : Same H H1 := s1.trans s2
    refine ⟨Str.ofString ".", L, [Tx (TL.numL z0.toNat), Tx (TL.numL z1.toNat), Tx (TL.numL z2.toNat)], rfl, rfl, .inl (SqL.of e), ?_, ?_⟩
    · simp only [List.map_cons, List.map_nil, List.sum_cons, List.sum_nil, List.length_cons, List.length_nil, tx_len, s_dot]
      omega
    · rw [s_dot, join3]
      refine ⟨_, rfl, a, _, 3, .int z3, rfl, rfl, tupS_same s3 ha, atI_nat (j := 3) rfl, rfl, _, rfl, ?_⟩
      by_cases q3 : z3 = 3
      · rw [decide_eq_true (show V.int z3 = V.int 3 by rw [q3])]
        refine iteT ?_
        refine ⟨_, rfl, ?_⟩
        have q := k _ s3
        rw [vtL_of, if_pos q3, List.append_nil] at q
        exact q
      · rw [decide_eq_false (show ¬ V.int z3 = V.int 3 by intro z; injection z with z; exact q3 z)]
        refine iteF ?_
        obtain ⟨ws, hws, hw5⟩ : ∃ ws, sortsL[z3.toNat]? = some ws ∧ ws.length ≤ 5 := by
          have : z3 = 0 ∨ z3 = 1 ∨ z3 = 2 := by omega
          rcases this with e | e | e <;> subst e <;> exact ⟨_, rfl, by decide⟩
        have e3 : z3 = ((z3.toNat : Nat) : Int) := by omega
        rw [s_dash]
        refine ⟨_, rfl, _, _, rfl, rfl, sz2 _ _ (by simp only [List.length_append, List.length_cons, List.length_nil]; omega), by show 3 ≤ sizeLine; decide, fun p2 hp2 => ?_⟩
        rw [tx_app]
        have s4 := s3.trans (Same.new (o := .tup [V.str (Str.ofString "alpha"), V.str (Str.ofString "beta"), V.str (Str.ofString "rc")]) hp2)
        refine ⟨_, rfl, a, _, 3, .int z3, rfl, rfl, tupS_same s4 ha, atI_nat (j := 3) rfl, p2, _, z3, .str (Tx ws), rfl, rfl, SqT.of upd_same, ?_, _, _, rfl, rfl, sz2 _ _ (by simp only [List.length_append, List.length_cons, List.length_nil]; omega), _, _, rfl, rfl, ?_, ?_⟩
        · have e : z3 = 0 ∨ z3 = 1 ∨ z3 = 2 := by omega
          have g : sortsV[z3.toNat]? = some (.str (Tx ws)) := by unfold sortsV; rw [List.getElem?_map, hws]; rfl
          rw [e3]
          refine atI_nat ?_
          rw [← g]
          exact congrArg (fun l : List V => l[z3.toNat]?) sorts_lit
        · rw [tx_app]
          exact sz2 _ _ (by simp only [List.length_append, List.length_cons, List.length_nil]; omega)
        · have gg : ∀ A : List Nat, (Tx A ++ Tx ws ++ Tx [46] : Str) = Tx (A ++ ws ++ [46]) := fun A => by rw [tx_app A ws, tx_app (A ++ ws) [46]]
          rw [gg]
          refine ⟨_, rfl, a, _, 4, .int z4, rfl, rfl, tupS_same s4 ha, atI_nat (j := 4) rfl, z4, rfl, log_small h9 (by omega), _, _, rfl, rfl, ?_, ?_⟩
          · rw [tx_int h9]
            exact sz2 _ _ (by simp only [List.length_append, List.length_cons, List.length_nil]; omega)
          · rw [tx_int h9, tx_app _ (TL.numL z4.toNat)]
            have q := k _ s4
            rw [vtL_of, if_neg q3, List.getD_eq_getElem?_getD, hws] at q
            simp only [List.append_assoc] at q ⊢
            exact q
end


abbrev sLSort : Stmt := top 33
abbrev nLSort : List Str := ["_law_text_here", "_law_at", "_law_parts", "_law_words", "_law_sign", "_law_some", "_law_k", "_law_letter", "_law_to"]
abbrev pLSort : List Str := ["_law_text_here", "_law_at", "_law_parts"]
theorem scLSort : FnScope nLSort pLSort (defScope sLSort) := ⟨rfl, rfl, rfl, by decide +kernel, rfl, by decide +kernel, by decide +kernel⟩
abbrev sLWalked : Stmt := top 32
abbrev nLWalked : List Str := ["_law_text_here", "_law_at", "_law_parts", "_law_turn", "_law_to"]
abbrev pLWalked : List Str := ["_law_text_here", "_law_at"]
theorem scLWalked : FnScope nLWalked pLWalked (defScope sLWalked) := ⟨rfl, rfl, rfl, by decide +kernel, rfl, by decide +kernel, by decide +kernel⟩
/-- behind the dash: the sort, its number, where it ends -/
def slE (t : List Nat) (i : Nat) : Except Nat (Nat × Nat × Nat) := do
  let (s, i6) ← sortE t i
  let i7 ← wordE t [46] i6
  let (i8, n) ← numE t i7
  .ok (s, n, i8)
def spLSort (K : PySem.W.Frag) : Sp := fun vs H Q _ => ∃ (t : List Nat) (i : Nat) (pa : Addr) (xs : List Int), vs = [.str (Tx t), .int (i : Int), .ref pa] ∧ SqT K H pa (xs.map V.int) ∧ xs.length = 3 ∧ i ≤ t.length ∧ t.length ≤ 600 ∧
  (∀ s n j, slE t i = .ok (s, n, j) → ∀ H' p q, Same H H' → H' q = some (.tup ((xs ++ [(s : Int), (n : Int)]).map V.int)) → H' p = some (.tup [.int (j : Int), .ref q]) → Q (.ref p) H') ∧
  (∀ j, slE t i = .error j → ∀ H' p, Same H H' → H' p = some (.tup [.int (j : Int), .non]) → Q (.ref p) H')
def spLWalked (K : PySem.W.Frag) : Sp := fun vs H Q _ => ∃ (t : List Nat), vs = [.str (Tx t), .int 0] ∧ t.length ≤ 600 ∧
  (∀ v j, verE t 0 = .ok (v, j) → ∀ H' p q, Same H H' → H' q = some (.tup (v.map V.int)) → H' p = some (.tup [.int (j : Int), .ref q]) → Q (.ref p) H') ∧
  (∀ j, verE t 0 = .error j → ∀ H' p, Same H H' → H' p = some (.tup [.int (j : Int), .non]) → Q (.ref p) H')
/-- the value that the law reads between i and j -/
abbrev wv (t : List Nat) (i j : Nat) : Nat := NumText.digitsVal ((t.drop i).take (j - i))
theorem lfig_stop {t : List Nat} {i : Nat} (h : lfig t i = i) : numE t i = .error i := by
  unfold lfig at h
  refine num_err ?_
  unfold numAt
  by_cases q : t[i]? = some 48
  · rw [if_pos q] at h; omega
  · rw [if_neg q] at h ⊢
    rw [if_pos h]
theorem lfig_read {t : List Nat} {i : Nat} (hi : i ≤ t.length) (h : lfig t i ≠ i) : numE t i = .ok (lfig t i, wv t i (lfig t i)) ∧ i < lfig t i ∧ lfig t i ≤ t.length ∧ NumText.AllDigits ((t.drop i).take (lfig t i - i)) := by
  unfold lfig at h ⊢
  by_cases q : t[i]? = some 48
  · have hl := (List.getElem?_eq_some_iff.mp q).1
    rw [if_pos q]
    have e : (t.drop i).take (i + 1 - i) = [48] := by rw [show i + 1 - i = 1 by omega]; exact sgn_some q
    refine ⟨num_ok ?_, by omega, by omega, ?_⟩
    · unfold numAt wv
      rw [if_pos q, e]
      rfl
    · rw [e]
      intro c hc
      have : c = 48 := by simpa using hc
      omega
  · rw [if_neg q] at h ⊢
    have := figs_ge t i
    refine ⟨num_ok ?_, by omega, figs_le hi, figs_digits t i⟩
    unfold numAt
    rw [if_neg q, if_neg h]
/-- int of a cut of the text -/
theorem int_read {t : List Nat} {σ : L2.St} {i j e : Nat} {Hx : Hp} {Q' : VK} (h0 : σ[0]? = some (some (.str (Tx t)))) (h1 : σ[1]? = some (some (.int (i : Int)))) (h2 : σ[e]? = some (some (.int (j : Int)))) (hij : i < j) (hj : j ≤ t.length) (ht : t.length ≤ 600)
    (hd : NumText.AllDigits ((t.drop i).take (j - i))) (q : Q' (.int (wv t i j : Nat)) Hx) :
    tCB (fun xs H Q => ∃ a n, xs = [V.str a] ∧ PySem.intText? a = some n ∧ a.length ≤ 640 ∧ Q (V.int n) H) (tCons (tSl rSlS (tVar 0) (tPart (tVar 1)) (tPart (tVar e))) tNil) σ Hx Q' := by
  have wl : ((t.drop i).take (j - i)).length = j - i := by rw [List.length_take, List.length_drop]; omega
  refine ⟨_, h0, _, h1, _, rfl, _, h2, _, rfl, _, rfl, by rw [tx_len]; exact Nat.le_of_lt (small1000 (by omega)), _, ((wv t i j : Nat) : Int), rfl, ?_, ?_, q⟩
  · rw [cut_tx (Nat.le_of_lt hij) hj]
    have h := PySem.intText_digits (x := Tx ((t.drop i).take (j - i))) (by rw [tx_list]; exact hd) (by
      rw [tx_list]
      intro z
      rw [z] at wl
      simp only [List.length_nil] at wl
      omega) (by rw [tx_len]; omega)
    rw [tx_list] at h
    exact h
  · rw [cut_tx (Nat.le_of_lt hij) hj, tx_len]
    omega
def tailE (t : List Nat) (ps : List Int) (i : Nat) : Except Nat (List Int × Nat) :=
  if isAt t [45] i then (match slE t (i + 1) with | .ok (s, n, j) => .ok (ps ++ [(s : Int), (n : Int)], j) | .error j => .error j) else .ok (ps ++ [3, 0], i)
def numsE (t : List Nat) : Nat → List Int → Nat → Except Nat (List Int × Nat)
  | 0, ps, i => tailE t ps i
  | 1, ps, i => match numE t i with | .error j => .error j | .ok (j, n) => tailE t (ps ++ [(n : Int)]) j
  | k + 2, ps, i => match numE t i with | .error j => .error j | .ok (j, n) => (match wordE t [46] j with | .error j => .error j | .ok j2 => numsE t (k + 1) (ps ++ [(n : Int)]) j2)
theorem ver_nums (t : List Nat) (i : Nat) : verE t i = numsE t 3 [] i := by
  unfold verE numsE
  cases numE t i with
  | error j => rfl
  | ok x =>
    obtain ⟨i1, a⟩ := x
    simp only [bind, Except.bind]
    cases wordE t [46] i1 with
    | error j => rfl
    | ok i2 =>
      simp only
      unfold numsE
      cases numE t i2 with
      | error j => rfl
      | ok x =>
        obtain ⟨i3, b⟩ := x
        simp only
        cases wordE t [46] i3 with
        | error j => rfl
        | ok i4 =>
          simp only
          unfold numsE
          cases numE t i4 with
          | error j => rfl
          | ok x =>
            obtain ⟨i5, c⟩ := x
            simp only
            unfold tailE slE
            cases isAt t [45] i5 with
            | false => rfl
            | true =>
              simp only [if_true, bind, Except.bind]
              cases sortE t (i5 + 1) with
              | error j => rfl
              | ok x =>
                obtain ⟨s, i6⟩ := x
                simp only
                cases wordE t [46] i6 with
                | error j => rfl
                | ok i7 =>
                  simp only
                  cases numE t i7 with
                  | error j => rfl
                  | ok x => rfl
theorem nums_err {t : List Nat} {m i j : Nat} {ps : List Int} (hm : m < 3) (h : numE t i = .error j) : numsE t (3 - m) ps i = .error j := by
  match m, hm with
  | 0, _ => show numsE t 3 ps i = _; unfold numsE; rw [h]
  | 1, _ => show numsE t 2 ps i = _; unfold numsE; rw [h]
  | 2, _ => show numsE t 1 ps i = _; unfold numsE; rw [h]
theorem nums_dot {t : List Nat} {m i j e n : Nat} {ps : List Int} (hm : m < 2) (h : numE t i = .ok (j, n)) (hw : wordE t [46] j = .error e) : numsE t (3 - m) ps i = .error e := by
  match m, hm with
  | 0, _ => show numsE t 3 ps i = _; unfold numsE; rw [h]; simp only; rw [hw]
  | 1, _ => show numsE t 2 ps i = _; unfold numsE; rw [h]; simp only; rw [hw]
theorem nums_go {t : List Nat} {m i j e n : Nat} {ps : List Int} (hm : m < 2) (h : numE t i = .ok (j, n)) (hw : wordE t [46] j = .ok e) : numsE t (3 - m) ps i = numsE t (3 - (m + 1)) (ps ++ [(n : Int)]) e := by
  match m, hm with
  | 0, _ => show numsE t 3 ps i = numsE t 2 _ _; conv => lhs; unfold numsE; rw [h]
            simp only; rw [hw]
  | 1, _ => show numsE t 2 ps i = numsE t 1 _ _; conv => lhs; unfold numsE; rw [h]
            simp only; rw [hw]
theorem nums_last {t : List Nat} {i j n : Nat} {ps : List Int} (h : numE t i = .ok (j, n)) : numsE t 1 ps i = tailE t (ps ++ [(n : Int)]) j := by
  unfold numsE
  rw [h]
theorem word1 {t : List Nat} {j c : Nat} : wordE t [c] j = if t[j]? = some c then .ok (j + 1) else .error j := by
  have hc := cmn_step (t.drop j) [c] 0 c (Nat.zero_le _) rfl
  rw [List.getElem?_drop, Nat.add_zero] at hc
  by_cases q : t[j]? = some c
  · rw [if_pos q]
    have h1 := hc.1 q
    have h2 := cmn_le (t.drop j) [c]
    exact word_ok (Nat.le_antisymm h2 h1)
  · rw [if_neg q]
    have h1 := hc.2 q
    rw [word_err (by rw [h1]; exact Nat.zero_lt_one), h1, Nat.add_zero]
/-! the sorts as the law finds them -/
def fst3 (k : Nat) : Nat := (sortsL.getD k []).headD 0
def wordW (k : Nat) : List Nat := sortsL.getD k [] ++ [46]
def wordsV : List V := [V.str (Tx (wordW 0)), V.str (Tx (wordW 1)), V.str (Tx (wordW 2))]
theorem words_lit : [V.str (Str.ofString "alpha."), V.str (Str.ofString "beta."), V.str (Str.ofString "rc.")] = wordsV := by
  have e1 : Str.ofString "alpha." = Tx (wordW 0) := by decide +kernel
  have e2 : Str.ofString "beta." = Tx (wordW 1) := by decide +kernel
  have e3 : Str.ofString "rc." = Tx (wordW 2) := by decide +kernel
  rw [e1, e2, e3]
  rfl
theorem words_get {k : Nat} (h : k < 3) : wordsV[k]? = some (.str (Tx (wordW k))) ∧ ∃ r, sortsL[k]? = some (fst3 k :: r) ∧ wordW k = (fst3 k :: r) ++ [46] ∧ r.length ≤ 4 := by
  match k, h with
  | 0, _ => exact ⟨rfl, _, rfl, rfl, by decide⟩
  | 1, _ => exact ⟨rfl, _, rfl, rfl, by decide⟩
  | 2, _ => exact ⟨rfl, _, rfl, rfl, by decide⟩
def someL (t : List Nat) (i m : Nat) : List Int := ((List.range m).filter fun k => decide (t[i]? = some (fst3 k))).map fun k => ((k : Nat) : Int)
theorem someL_succ (t : List Nat) (i m : Nat) : someL t i (m + 1) = someL t i m ++ (if t[i]? = some (fst3 m) then [(m : Int)] else []) := by
  unfold someL
  rw [List.range_succ, List.filter_append, List.map_append]
  by_cases h : t[i]? = some (fst3 m)
  · simp [h]
  · simp [h]
theorem someL_len (t : List Nat) (i m : Nat) : (someL t i m).length ≤ m := by
  unfold someL
  rw [List.length_map]
  have := List.length_filter_le (fun k => decide (t[i]? = some (fst3 k))) (List.range m)
  rw [List.length_range] at this
  exact this
theorem someL_none {t : List Nat} {i : Nat} (h : ∀ k, k < 3 → t[i]? ≠ some (fst3 k)) : someL t i 3 = [] := by
  rw [someL_succ, someL_succ, someL_succ, if_neg (h 0 (by decide)), if_neg (h 1 (by decide)), if_neg (h 2 (by decide))]
  rfl
theorem someL_one {t : List Nat} {i k : Nat} (hk : k < 3) (h : t[i]? = some (fst3 k)) : someL t i 3 = [(k : Int)] := by
  rw [someL_succ, someL_succ, someL_succ, h, show someL t i 0 = [] from rfl]
  match k, hk with
  | 0, _ => decide
  | 1, _ => decide
  | 2, _ => decide
theorem sortE_none {t : List Nat} {i : Nat} (h : ∀ k, k < 3 → t[i]? ≠ some (fst3 k)) : sortE t i = .error i := by
  have f : ∀ k, k < 3 → isAt t [fst3 k] i = false := fun k hk => by
    cases q : isAt t [fst3 k] i with
    | false => rfl
    | true => exact absurd (isAt_one.mp q) (h k hk)
  have f0 : isAt t [97] i = false := f 0 (by decide)
  have f1 : isAt t [98] i = false := f 1 (by decide)
  have f2 : isAt t [114] i = false := f 2 (by decide)
  simp [sortE, sortsL, sortG, f0, f1, f2]
theorem sortE_one {t r : List Nat} {i k : Nat} (hk : k < 3) (hr : sortsL[k]? = some (fst3 k :: r)) (h : t[i]? = some (fst3 k)) : sortE t i = (match wordE t r (i + 1) with | .ok j => .ok (k, j) | .error j => .error j) := by
  have f : isAt t [fst3 k] i = true := isAt_one.mpr h
  have g : ∀ c, c ≠ fst3 k → isAt t [c] i = false := fun c hc => by
    cases q : isAt t [c] i with
    | false => rfl
    | true =>
      have e := (isAt_one.mp q).symm.trans h
      injection e with e
      exact absurd e hc
  match k, hk, hr, f, g with
  | 0, _, hr, f, g =>
    have e : r = [108, 112, 104, 97] := by injection hr with hr; injection hr with _ hr; exact hr.symm
    have f0 : isAt t [97] i = true := f
    simp only [sortE, sortsL, sortG, f0, if_true, e]
    try (cases wordE t [108, 112, 104, 97] (i + 1) <;> rfl)
  | 1, _, hr, f, g =>
    have e : r = [101, 116, 97] := by injection hr with hr; injection hr with _ hr; exact hr.symm
    have f1 : isAt t [98] i = true := f
    have f0 : isAt t [97] i = false := g 97 (by decide)
    simp only [sortE, sortsL, sortG, f0, f1, if_true, e, Bool.false_eq_true, if_false]
    try (cases wordE t [101, 116, 97] (i + 1) <;> rfl)
  | 2, _, hr, f, g =>
    have e : r = [99] := by injection hr with hr; injection hr with _ hr; exact hr.symm
    have f2 : isAt t [114] i = true := f
    have f0 : isAt t [97] i = false := g 97 (by decide)
    have f1 : isAt t [98] i = false := g 98 (by decide)
    simp only [sortE, sortsL, sortG, f0, f1, f2, if_true, e, Bool.false_eq_true, if_false]
    try (cases wordE t [99] (i + 1) <;> rfl)
theorem cmn_app : ∀ s u v : List Nat, cmn s (u ++ v) = if cmn s u = u.length then u.length + cmn (s.drop u.length) v else cmn s u
  | s, [], v => by
    have e : cmn s [] = 0 := by cases s <;> rfl
    simp [e]
  | [], b :: u, v => by simp [cmn]
  | a :: s, b :: u, v => by
    have ih := cmn_app s u v
    show (if a = b then cmn s (u ++ v) + 1 else 0) = if (if a = b then cmn s u + 1 else 0) = u.length + 1 then _ else (if a = b then cmn s u + 1 else 0)
    by_cases q : a = b
    · rw [if_pos q, if_pos q, ih]
      by_cases z : cmn s u = u.length
      · rw [if_pos z, if_pos (by omega), List.length_cons, List.drop_succ_cons]
        omega
      · rw [if_neg z, if_neg (by omega)]
    · rw [if_neg q, if_neg q, if_neg (by omega)]
theorem wordE_app (t u v : List Nat) (i : Nat) : wordE t (u ++ v) i = (match wordE t u i with | .ok j => wordE t v j | .error j => .error j) := by
  unfold wordE
  rw [cmn_app]
  by_cases z : cmn (t.drop i) u = u.length
  · rw [if_pos z, if_pos z, List.drop_drop, List.length_append]
    by_cases y : cmn (t.drop (i + u.length)) v = v.length
    · rw [if_pos (by omega)]
      simp only [if_pos y]
      rw [Nat.add_assoc]
    · rw [if_neg (by omega)]
      simp only [if_neg y]
      rw [Nat.add_assoc]
  · rw [if_neg z, if_neg z]
    have := cmn_le (t.drop i) u
    rw [if_neg (by rw [List.length_append]; omega)]
theorem slE_none {t : List Nat} {i : Nat} (h : ∀ k, k < 3 → t[i]? ≠ some (fst3 k)) : slE t i = .error i := by
  unfold slE
  rw [sortE_none h]
  rfl
theorem slE_one {t : List Nat} {i k : Nat} (hk : k < 3) (h : t[i]? = some (fst3 k)) : slE t i = (match wordE t (wordW k) i with | .error j => .error j | .ok j => (match numE t j with | .error e => .error e | .ok (e, n) => .ok (k, n, e))) := by
  obtain ⟨_, r, hr, ew, _⟩ := words_get hk
  have e1 : wordE t (fst3 k :: r) i = wordE t r (i + 1) := by
    rw [show fst3 k :: r = [fst3 k] ++ r from rfl, wordE_app, word1, if_pos h]
  rw [ew, wordE_app, e1]
  unfold slE
  rw [sortE_one hk hr h]
  cases wordE t r (i + 1) with
  | error j => rfl
  | ok j =>
    simp only [bind, Except.bind]
    cases wordE t [46] j with
    | error j => rfl
    | ok j =>
      simp only
      cases numE t j with
      | error j => rfl
      | ok x => rfl
section
variable {P : Program} {w : World} {K : PySem.W.Frag} {mg : Str → Option Value} {base : Heap}
theorem ok_LSort {f : Addr} {fd : FuncData} {fLFigures : Addr} {fdLFigures : FuncData} (Z : Blt K mg) (D : DefAt K mg "_law_sort" sLSort pLSort f fd) (DLFigures : DefAt K mg "_law_figures" sLFigures pLFigures fLFigures fdLFigures) (GLFigures : FnOk P w K mg base CX0 1 fLFigures fdLFigures pLFigures spLFigures) : FnOk P w K mg base CX0 2 f fd pLSort (spLSort K) := by
  refine D.F.ok scLSort (fun vs H Q E h => ?_) (fun cdv A outer s0 H vs Q E hr h => ?_)
  · obtain ⟨t, i, pa, xs, rfl, _⟩ := h
    rfl
  have hu := hu_of hr
  obtain ⟨t, i, pa, xs, rfl, hpa, hx3, hi, ht, kQ, kE⟩ := h
  refine ⟨_, (pss_cons (ps_asg (pe_tup (pa_cons (pe_lst (pa_cons pe_str (pa_cons pe_str (pa_cons pe_str pa_nil)))) (pa_cons (pe_slice sl_str (pv 0) (po_some (pv 1)) (po_some (pe_op op_add (pv 1) pe_int))) pa_nil))) (pg_tup rfl (pgs_cons (pg_name (i := 3) scLSort.nd rfl (Or.inr rfl)) (pgs_cons (pg_name (i := 4) scLSort.nd rfl (Or.inr rfl)) pgs_nil))))
    (pss_cons (ps_setLc (i := 5) (own := [("_law_k", 6)]) (g := gName 6) rfl scLSort.nd rfl rfl (sw_true rfl rfl rfl (by decide +kernel)) (pi_range1 (by rfl) Z.range (pa_cons pe_int pa_nil)) (blkOk_by (own := [("_law_k", 6)]) (N := nLSort) (sc := defScope sLSort) (by decide +kernel)) (fun _ _ _ _ _ => (pg_name (i := 6) scLSort.nd rfl (Or.inl rfl))) (fun _ _ _ _ _ => (pts_one (pt_cmpR op_eq (pe_ix ix_str (pe_ix (ix_listK K) (pv 3) (pv 6) (fun _ _ => rfl)) pe_int (fun _ _ => rfl)) (pv 4) (nomark _)))) (fun _ _ _ _ _ => (pv 6)))
    (pss_cons (ps_if (pt_cmpR (op_eqD hr.units) (pv 5) (pe_lst pa_nil) (nomark _))
    (pss_one (ps_ret (pe_tup (pa_cons (pv 1) (pa_cons pe_non pa_nil)))))
    pss_nil)
    (pss_cons (ps_for PassesOwn.never rfl (pi_str (pe_ix ix_list (pv 3) (pe_ix ix_list (pv 5) pe_int (fun _ _ => rfl)) (fun _ _ => rfl))) (pg_name (i := 7) scLSort.nd rfl (Or.inl rfl))
    (pss_cons (ps_if (pt_cmpR op_ne (pe_slice sl_str (pv 0) (po_some (pv 1)) (po_some (pe_op op_add (pv 1) pe_int))) (pv 7) (nomark _))
      (pss_one (ps_ret (pe_tup (pa_cons (pv 1) (pa_cons pe_non pa_nil)))))
      pss_nil)
      (pss_one (ps_set (i := 1) scLSort.nd rfl (Or.inl rfl) (pe_op op_add (pv 1) pe_int)))))
    (pss_cons (ps_set (i := 8) scLSort.nd rfl (Or.inl rfl) (pe_call GLFigures (hr.mono (by decide)) rfl DLFigures.g DLFigures.F.kp DLFigures.b .nil pass0 (pa_cons (pv 0) (pa_cons (pv 1) pa_nil))))
    (pss_one (ps_ret (pe_ifExp (pt_cmpR op_eq (pv 8) (pv 1) (nomark _)) (pe_tup (pa_cons (pv 8) (pa_cons pe_non pa_nil))) (pe_tup (pa_cons (pv 8) (pa_cons (pe_op op_catA (pv 2) (pe_tup (pa_cons (pe_ix ix_list (pv 5) pe_int (fun _ _ => rfl)) (pa_cons (pe_callTy call_int_str (by rfl) Z.int (by decide +kernel) (pa_cons (pe_slice sl_str (pv 0) (po_some (pv 1)) (po_some (pv 8))) pa_nil)) pa_nil)))) pa_nil))))))))))), ?_⟩
  refine ⟨by show 3 ≤ sizeLine; decide, fun LW hLW => ?_⟩
  refine sgn_read rfl rfl hi ht ⟨by show 2 ≤ sizeLine; decide, fun T hT => ?_⟩
  refine ⟨T, _, rfl, SqT.of upd_same, rfl, _, _, rfl, _, _, rfl, rfl, ?_⟩
  rw [words_lit]
  rw [words_lit] at hT
  have eW : (upd (upd H LW (.lst wordsV)) T (.tup [V.ref LW, V.str (Tx ((t.drop i).take 1))])) LW = some (.lst wordsV) := (upd_ne (fun z => by rw [← z, upd_same] at hT; cases hT)).trans upd_same
  have s1 : Same H (upd (upd H LW (.lst wordsV)) T (.tup [V.ref LW, V.str (Tx ((t.drop i).take 1))])) := (Same.new hLW).trans (Same.new hT)
  generalize (upd (upd H LW (.lst wordsV)) T (.tup [V.ref LW, V.str (Tx ((t.drop i).take 1))])) = H1 at eW s1
  refine ⟨3, rfl, by decide, by decide, fun L hL => lc_range (lo := 0) (n := 3) (fun m H' => H' L = some (.lst ((someL t i m).map V.int)) ∧ Same H1 H') ⟨upd_same, Same.new hL⟩ ?_ ?_⟩
  · rintro m H' hm ⟨e, s2⟩
    obtain ⟨hg, r, hr, ew, hr4⟩ := words_get hm
    refine ⟨rfl, ?_⟩
    refine ⟨_, rfl, _, rfl, LW, wordsV, _, _, rfl, rfl, SqL.of (s2 _ _ eW), (by rw [Int.zero_add]; exact atI_nat hg), Tx (wordW m), 0, fst3 m, rfl, rfl, by rw [tx_len, ew]; exact Nat.le_of_lt (small1000 (by simp; omega)), by rw [tx_list, ew]; exact atI_nat (j := 0) rfl, _, rfl, rfl, _, rfl, ?_⟩
    by_cases q : t[i]? = some (fst3 m)
    · rw [decide_eq_true (show V.str (Tx [fst3 m]) = V.str (Tx ((t.drop i).take 1)) from (sgn_is.mpr q).symm)]
      refine iteT ?_
      refine ⟨_, rfl, _, e, ?_, ?_, Same.out s2 hL⟩
      · rw [List.length_map]
        have := someL_len t i m
        exact small1000 (by omega)
      · rw [upd_same, someL_succ, if_pos q, List.map_append, Int.zero_add]
        rfl
    · rw [decide_eq_false (show ¬ V.str (Tx [fst3 m]) = V.str (Tx ((t.drop i).take 1)) from fun z => q (sgn_is.mp z.symm))]
      refine iteF ?_
      exact ⟨by rw [e, someL_succ, if_neg q, List.append_nil], s2⟩
  · rintro H2 ⟨e, s2⟩
    have s3 : Same H H2 := s1.trans s2
    refine ⟨_, rfl, by show 0 ≤ sizeLine; decide, fun p0 hp0 => ?_⟩
    have e3 := (Same.new (o := .lst []) hp0) _ _ e
    have s4 : Same H (upd H2 p0 (.lst [])) := s3.trans (Same.new hp0)
    have eW4 := (Same.new (o := .lst []) hp0) _ _ (s2 _ _ eW)
    refine ⟨_, _, .lst (SqL.of e3) (DpAll.ints _), .lst (SqL.of upd_same) .nil, sh_ints _, by decide, _, rfl, ?_⟩
    rw [eqv_nil]
    generalize upd H2 p0 (.lst []) = H3 at e3 s4 eW4
    by_cases hk : ∃ k, k < 3 ∧ t[i]? = some (fst3 k)
    · obtain ⟨k, hk, h⟩ := hk
      rw [someL_one hk h] at e3 ⊢
      refine iteF ?_
      obtain ⟨hg, r, hr, ew, hr4⟩ := words_get hk
      have eS := slE_one hk h
      have hcl := cmn_le' (t.drop i) (wordW k)
      rw [List.length_drop] at hcl
      refine ⟨_, rfl, _, rfl, L, _, 0, _, rfl, rfl, SqL.of e3, atI_nat (j := 0) rfl, LW, wordsV, _, _, rfl, rfl, SqL.of eW4, atI_nat hg, Tx (wordW k), rfl, for_str (l := wordW k) (fun m σ H' => ∃ v7, σ = [some (.str (Tx t)), some (.int ((i + m : Nat) : Int)), some (.ref pa), some (.ref LW), some (.str (Tx ((t.drop i).take 1))), some (.ref L), none, v7, none] ∧ m ≤ cmn (t.drop i) (wordW k) ∧ H' = H3) ⟨none, rfl, Nat.zero_le _, rfl⟩ ?_ ?_⟩
      · rintro m c σ H' hc ⟨v7, rfl, hm, rfl⟩
        obtain ⟨sT, sF⟩ := cmn_step (t.drop i) (wordW k) m c hm hc
        rw [List.getElem?_drop] at sT sF
        have hmw : m < (wordW k).length := (List.getElem?_eq_some_iff.mp hc).1
        refine sgn_read (j := i + m) rfl rfl (by omega) ht ⟨_, rfl, rfl, _, rfl, ?_⟩
        by_cases q : t[i + m]? = some c
        · rw [decide_eq_true (sgn_is.mpr q)]
          refine iteF ?_
          exact ⟨_, rfl, _, _, rfl, rfl, _, rfl, sT q, rfl⟩
        · rw [decide_eq_false (fun z => q (sgn_is.mp z))]
          refine iteT ?_
          have ec := sF q
          refine ⟨_, rfl, by show 2 ≤ sizeLine; decide, fun p hp => ?_⟩
          refine kE (i + m) ?_ _ p (s4.trans (Same.new hp)) upd_same
          rw [eS, word_err (by omega), ec]
      · rintro σ H' ⟨v7, rfl, hm, rfl⟩
        have hw : cmn (t.drop i) (wordW k) = (wordW k).length := Nat.le_antisymm (cmn_le _ _) hm
        have hj : i + (wordW k).length ≤ t.length := by omega
        rw [word_ok hw] at eS
        generalize i + (wordW k).length = j at eS hj
        refine ⟨_, rfl, _, rfl, t, j, rfl, hj, ht, ?_⟩
        refine ⟨_, rfl, _, rfl, rfl, _, rfl, ?_⟩
        by_cases q0 : lfig t j = j
        · rw [decide_eq_true (show V.int ((lfig t j : Nat) : Int) = V.int (j : Int) by rw [q0])]
          refine iteT ?_
          refine ⟨_, rfl, by show 2 ≤ sizeLine; decide, fun p hp => ?_⟩
          refine kE (lfig t j) ?_ _ p (s4.trans (Same.new hp)) upd_same
          rw [eS]
          simp only [lfig_stop q0, q0]
        · rw [decide_eq_false (show ¬ V.int ((lfig t j : Nat) : Int) = V.int (j : Int) by intro z; injection z with z; omega)]
          refine iteF ?_
          obtain ⟨hN, hlt, hle, hdg⟩ := lfig_read hj q0
          refine ⟨_, rfl, _, rfl, _, rfl, L, _, 0, _, rfl, rfl, SqL.of e3, atI_nat (j := 0) rfl, ?_⟩
          refine int_read rfl rfl rfl hlt hle ht hdg ?_
          refine ⟨by show 2 ≤ sizeLine; decide, fun p2 hp2 => ?_⟩
          refine ⟨pa, p2, _, _, rfl, rfl, tupS_same (s4.trans (Same.new hp2)) hpa, SqT.of upd_same, ?_, fun z => ?_, fun _ z => ?_, fun _ _ q hq => ?_⟩
          · rw [List.length_map, hx3]
            show 3 + 2 ≤ sizeLine
            decide
          · have := congrArg List.length z
            rw [List.length_map, hx3] at this
            cases this
          · cases z
          · refine ⟨by show 2 ≤ sizeLine; decide, fun p hp => ?_⟩
            refine kQ k (wv t j (lfig t j)) (lfig t j) (by rw [eS]; simp only [hN]) _ p q (((s4.trans (Same.new hp2)).trans (Same.new hq)).trans (Same.new hp)) ?_ upd_same
            have nq : q ≠ p := fun z => by rw [← z, upd_same] at hp; cases hp
            rw [upd_ne nq, upd_same, List.map_append]
            rfl
    · have hn : ∀ k, k < 3 → t[i]? ≠ some (fst3 k) := fun k h3 z => hk ⟨k, h3, z⟩
      rw [someL_none hn]
      refine iteT ?_
      exact ⟨_, rfl, by show 2 ≤ sizeLine; decide, fun p hp => kE i (slE_none hn) _ p (s4.trans (Same.new hp)) upd_same⟩
theorem ok_LWalked {f : Addr} {fd : FuncData} {fLFigures : Addr} {fdLFigures : FuncData} {fLSort : Addr} {fdLSort : FuncData} (Z : Blt K mg) (D : DefAt K mg "_law_walked" sLWalked pLWalked f fd) (DLFigures : DefAt K mg "_law_figures" sLFigures pLFigures fLFigures fdLFigures) (GLFigures : FnOk P w K mg base CX0 1 fLFigures fdLFigures pLFigures spLFigures) (DLSort : DefAt K mg "_law_sort" sLSort pLSort fLSort fdLSort) (GLSort : FnOk P w K mg base CX0 2 fLSort fdLSort pLSort (spLSort K)) : FnOk P w K mg base CX0 3 f fd pLWalked (spLWalked K) := by
  refine D.F.ok scLWalked (fun vs H Q E h => ?_) (fun cdv A outer s0 H vs Q E hr h => ?_)
  · obtain ⟨t, rfl, _⟩ := h
    rfl
  have hu := hu_of hr
  obtain ⟨t, rfl, ht, kQ, kE⟩ := h
  refine ⟨_, (pss_cons (ps_set (i := 2) scLWalked.nd rfl (Or.inl rfl) (pe_lst pa_nil))
    (pss_cons (ps_for PassesOwn.never rfl (pi_range1 (by rfl) Z.range (pa_cons pe_int pa_nil)) (pg_name (i := 3) scLWalked.nd rfl (Or.inl rfl))
    (pss_cons (ps_set (i := 4) scLWalked.nd rfl (Or.inl rfl) (pe_call GLFigures (hr.mono (by decide)) rfl DLFigures.g DLFigures.F.kp DLFigures.b .nil pass0 (pa_cons (pv 0) (pa_cons (pv 1) pa_nil))))
      (pss_cons (ps_if (pt_cmpR op_eq (pv 4) (pv 1) (nomark _))
      (pss_one (ps_ret (pe_tup (pa_cons (pv 1) (pa_cons pe_non pa_nil)))))
      pss_nil)
      (pss_cons (ps_expr (pe_bm PySem.F.plainAttrs_list PySem.F.slot_list_append PySem.F.type_list_append mt_append (pv 2) (pa_cons (pe_callTy call_int_str (by rfl) Z.int (by decide +kernel) (pa_cons (pe_slice sl_str (pv 0) (po_some (pv 1)) (po_some (pv 4))) pa_nil)) pa_nil)))
      (pss_cons (ps_set (i := 1) scLWalked.nd rfl (Or.inl rfl) (pv 4))
      (pss_one (ps_if (pt_cmpR op_lt (pv 3) pe_int (nomark _))
      (pss_cons (ps_if (pt_cmpR op_ne (pe_slice sl_str (pv 0) (po_some (pv 1)) (po_some (pe_op op_add (pv 1) pe_int))) pe_str (nomark _))
        (pss_one (ps_ret (pe_tup (pa_cons (pv 1) (pa_cons pe_non pa_nil)))))
        pss_nil)
        (pss_one (ps_set (i := 1) scLWalked.nd rfl (Or.inl rfl) (pe_op op_add (pv 1) pe_int))))
      pss_nil)))))))
    (pss_cons (ps_if (pt_cmpR op_ne (pe_slice sl_str (pv 0) (po_some (pv 1)) (po_some (pe_op op_add (pv 1) pe_int))) pe_str (nomark _))
    (pss_one (ps_ret (pe_tup (pa_cons (pv 1) (pa_cons (pe_op op_catA (pe_callTy call_tuple_of (by rfl) Z.tuple (by decide +kernel) (pa_cons (pv 2) pa_nil)) (pe_tup (pa_cons pe_int (pa_cons pe_int pa_nil)))) pa_nil)))))
    pss_nil)
    (pss_one (ps_ret (pe_call GLSort (hr.mono (by decide)) rfl DLSort.g DLSort.F.kp DLSort.b .nil pass0 (pa_cons (pv 0) (pa_cons (pe_op op_add (pv 1) pe_int) (pa_cons (pe_callTy call_tuple_of (by rfl) Z.tuple (by decide +kernel) (pa_cons (pv 2) pa_nil)) pa_nil))))))))), ?_⟩
  refine ⟨by show 0 ≤ sizeLine; decide, fun L hL => ?_⟩
  refine ⟨3, rfl, by decide, by decide, for_range (lo := 0) (n := 3) (fun m σ H' => ∃ (i : Nat) (ps : List Int) (v3 v4 : Option V), σ = [some (.str (Tx t)), some (.int (i : Int)), some (.ref L), v3, v4] ∧ i ≤ t.length ∧ ps.length = m ∧ verE t 0 = numsE t (3 - m) ps i ∧ H' L = some (.lst (ps.map V.int)) ∧ Same H H') ⟨0, [], _, _, rfl, Nat.zero_le _, rfl, ver_nums t 0, upd_same, Same.new hL⟩ ?_ ?_⟩
  · rintro m σ H' hm ⟨i, ps, v3, v4, rfl, hi, hps, eV, eL, s1⟩
    refine ⟨_, rfl, _, rfl, t, i, rfl, hi, ht, ?_⟩
    refine ⟨_, rfl, _, rfl, rfl, _, rfl, ?_⟩
    by_cases q0 : lfig t i = i
    · rw [decide_eq_true (show V.int ((lfig t i : Nat) : Int) = V.int (i : Int) by rw [q0])]
      refine iteT ?_
      refine ⟨_, rfl, by show 2 ≤ sizeLine; decide, fun p hp => ?_⟩
      refine kE i ?_ _ p (s1.trans (Same.new hp)) upd_same
      rw [eV]
      exact nums_err hm (lfig_stop q0)
    · rw [decide_eq_false (show ¬ V.int ((lfig t i : Nat) : Int) = V.int (i : Int) by intro z; injection z with z; omega)]
      refine iteF ?_
      obtain ⟨hN, hlt, hle, hdg⟩ := lfig_read hi q0
      refine ⟨_, rfl, .inl ⟨rfl, _, SqL.of eL⟩, ?_⟩
      refine int_read rfl rfl rfl hlt hle ht hdg ?_
      refine ⟨L, _, _, rfl, rfl, eL, by rw [List.length_map]; exact small1000 (by omega), ?_⟩
      have e2 : (upd H' L (.lst (ps.map V.int ++ [V.int ((wv t i (lfig t i) : Nat) : Int)]))) L = some (.lst ((ps ++ [((wv t i (lfig t i) : Nat) : Int)]).map V.int)) := by rw [upd_same, List.map_append]; rfl
      have s2 : Same H (upd H' L (.lst (ps.map V.int ++ [V.int ((wv t i (lfig t i) : Nat) : Int)]))) := Same.out s1 hL
      refine ⟨_, rfl, ?_⟩
      refine ⟨_, rfl, _, _, rfl, rfl, _, rfl, ?_⟩
      by_cases m2 : m < 2
      · rw [decide_eq_true (show (0 : Int) + (m : Int) < 2 by omega)]
        refine iteT ?_
        refine sgn_read rfl rfl hle ht ⟨rfl, _, rfl, ?_⟩
        rw [s_dot]
        by_cases qd : t[lfig t i]? = some 46
        · rw [decide_eq_true (sgn_is.mpr qd)]
          refine iteF ?_
          have hl := (List.getElem?_eq_some_iff.mp qd).1
          exact ⟨_, rfl, _, _, rfl, rfl, lfig t i + 1, _, _, _, rfl, by omega, by rw [List.length_append, hps]; rfl, by rw [eV]; exact nums_go m2 hN (by rw [word1, if_pos qd]), e2, s2⟩
        · rw [decide_eq_false (fun z => qd (sgn_is.mp z))]
          refine iteT ?_
          refine ⟨_, rfl, by show 2 ≤ sizeLine; decide, fun p hp => ?_⟩
          exact kE _ (by rw [eV]; exact nums_dot m2 hN (by rw [word1, if_neg qd])) _ p (s2.trans (Same.new hp)) upd_same
      · rw [decide_eq_false (show ¬ (0 : Int) + (m : Int) < 2 by omega)]
        refine iteF ?_
        have m3 : m = 2 := by omega
        subst m3
        exact ⟨lfig t i, _, _, _, rfl, hle, by rw [List.length_append, hps]; rfl, by rw [eV]; exact nums_last hN, e2, s2⟩
  · rintro σ H' ⟨i, ps, v3, v4, rfl, hi, hps, eV, eL, s1⟩
    have eT : verE t 0 = tailE t ps i := eV
    refine sgn_read rfl rfl hi ht ⟨rfl, _, rfl, ?_⟩
    rw [s_dash]
    by_cases qd : t[i]? = some 45
    · rw [decide_eq_true (sgn_is.mpr qd)]
      refine iteF ?_
      have hl := (List.getElem?_eq_some_iff.mp qd).1
      have eq1 : isAt t [45] i = true := isAt_one.mpr qd
      unfold tailE at eT
      rw [if_pos eq1] at eT
      refine ⟨_, rfl, _, rfl, _, _, rfl, rfl, _, rfl, L, _, rfl, .inl ⟨SqL.of eL, fun l hl2 => ?_⟩⟩
      have s2 : Same H (upd H' l (.tup (ps.map V.int))) := s1.trans (Same.new hl2)
      refine ⟨t, i + 1, l, ps, rfl, SqT.of upd_same, hps, by omega, ht, fun s n j hs H2 p q s3 eq ep => ?_, fun j hs H2 p s3 ep => ?_⟩
      · exact kQ _ j (by rw [eT, hs]) H2 p q (s2.trans s3) eq ep
      · exact kE j (by rw [eT, hs]) H2 p (s2.trans s3) ep
    · rw [decide_eq_false (fun z => qd (sgn_is.mp z))]
      refine iteT ?_
      have eq0 : ¬ isAt t [45] i = true := fun z => qd (isAt_one.mp z)
      unfold tailE at eT
      rw [if_neg eq0] at eT
      refine ⟨_, rfl, _, rfl, L, _, rfl, .inl ⟨SqL.of eL, fun l hl2 => ?_⟩⟩
      refine ⟨by show 2 ≤ sizeLine; decide, fun p2 hp2 => ?_⟩
      have el : (upd H' l (.tup (ps.map V.int))) l = some (.tup (ps.map V.int)) := upd_same
      have nl : l ≠ p2 := fun z => by rw [← z, el] at hp2; cases hp2
      have s2 : Same H (upd (upd H' l (.tup (ps.map V.int))) p2 (.tup [V.int 3, V.int 0])) := (s1.trans (Same.new hl2)).trans (Same.new hp2)
      refine ⟨l, p2, _, _, rfl, rfl, SqT.of ((upd_ne nl).trans el), SqT.of upd_same, ?_, fun z => ?_, fun _ z => ?_, fun _ _ q hq => ?_⟩
      · rw [List.length_map, hps]
        show 3 + 2 ≤ sizeLine
        decide
      · have := congrArg List.length z
        rw [List.length_map, hps] at this
        cases this
      · cases z
      · refine ⟨by show 2 ≤ sizeLine; decide, fun p hp => ?_⟩
        refine kQ _ i eT _ p q ((s2.trans (Same.new hq)).trans (Same.new hp)) ?_ upd_same
        have nq : q ≠ p := fun z => by rw [← z, upd_same] at hp; cases hp
        rw [upd_ne nq, upd_same, List.map_append]
        rfl
end


/-! a version's text is read back -/
theorem drop_app {t a b : List Nat} {i : Nat} (h : t.drop i = a ++ b) : t.drop (i + a.length) = b := by
  rw [← List.drop_drop, h, List.drop_left]
theorem numL_head : ∀ n : Nat, 0 < n → ∃ d ds, TL.numL n = d :: ds ∧ d ≠ 48 := by
  intro n
  induction n using Nat.strongRecOn with
  | _ n ih =>
    intro hn
    by_cases h : n < 10
    · exact ⟨48 + n, [], TL.numL_lt h, by omega⟩
    · obtain ⟨d, ds, e, hd⟩ := ih (n / 10) (by omega) (by omega)
      exact ⟨d, ds ++ [48 + n % 10], by rw [TL.numL_step (by omega), e]; rfl, hd⟩
theorem takeWhile_app : ∀ (l r : List Nat), NumText.AllDigits l → (∀ c s, r = c :: s → dg c = false) → (l ++ r).takeWhile dg = l
  | [], [], _, _ => rfl
  | [], c :: s, _, h => by
    show (c :: s).takeWhile dg = []
    rw [List.takeWhile_cons, h c s rfl]
    rfl
  | a :: l, r, hl, h => by
    have ha : dg a = true := by
      have := hl a List.mem_cons_self
      unfold dg
      simpa using this
    show (a :: (l ++ r)).takeWhile dg = a :: l
    rw [List.takeWhile_cons, ha, if_pos rfl, takeWhile_app l r (fun c hc => hl c (List.mem_cons_of_mem _ hc)) h]
theorem num_go {t rest : List Nat} {i n : Nat} (h : t.drop i = TL.numL n ++ rest) (hr : ∀ c r, rest = c :: r → dg c = false) : numE t i = .ok (i + (TL.numL n).length, n) := by
  have g0 : t[i]? = (TL.numL n ++ rest)[0]? := by rw [← h, List.getElem?_drop, Nat.add_zero]
  refine num_ok ?_
  unfold numAt
  by_cases hn : n = 0
  · subst hn
    have e : TL.numL 0 = [48] := TL.numL_lt (by decide)
    rw [e] at g0 ⊢
    rw [if_pos (by rw [g0]; rfl)]
    rfl
  · obtain ⟨d, ds, e, hd⟩ := numL_head n (by omega)
    have n48 : ¬ t[i]? = some 48 := by
      rw [g0, e]
      intro z
      have : d = 48 := by simpa using z
      exact hd this
    have ef : figs t i = i + (TL.numL n).length := by
      unfold figs
      rw [h, takeWhile_app _ _ (TL.numL_digits n) hr]
    have hl : 0 < (TL.numL n).length := by rw [e]; simp
    rw [if_neg n48, ef, if_neg (by omega), show i + (TL.numL n).length - i = (TL.numL n).length by omega, h, List.take_left, TL.numL_val]
theorem cmn_self : ∀ w r : List Nat, cmn (w ++ r) w = w.length
  | [], r => by cases r <;> rfl
  | a :: w, r => by
    show (if a = a then cmn (w ++ r) w + 1 else 0) = _
    rw [if_pos rfl, cmn_self w r]
    rfl
theorem word_go {t w rest : List Nat} {i : Nat} (h : t.drop i = w ++ rest) : wordE t w i = .ok (i + w.length) := word_ok (by rw [h, cmn_self])
theorem sort_go {t rest : List Nat} {i k : Nat} (hk : k < 3) (h : t.drop i = sortsL.getD k [] ++ rest) : sortE t i = .ok (k, i + (sortsL.getD k []).length) := by
  obtain ⟨_, r, hr, ew, _⟩ := words_get hk
  have e : sortsL.getD k [] = fst3 k :: r := by rw [List.getD_eq_getElem?_getD, hr]; rfl
  rw [e] at h ⊢
  have g0 : t[i]? = some (fst3 k) := by
    have : (t.drop i)[0]? = some (fst3 k) := by rw [h]; rfl
    rw [List.getElem?_drop, Nat.add_zero] at this
    exact this
  have h1 : t.drop (i + 1) = r ++ rest := drop_app (a := [fst3 k]) h
  rw [sortE_one hk hr g0, word_go h1]
  show Except.ok (k, i + 1 + r.length) = Except.ok (k, i + (r.length + 1))
  rw [Nat.add_assoc, Nat.add_comm 1]
theorem nodig {c : Nat} (hc : dg c = false) (l : List Nat) : ∀ d r, ([c] ++ l : List Nat) = d :: r → dg d = false := fun d r e => by
  injection e with e _
  rw [← e]
  exact hc
theorem read_back {B : Int} {x : List Int} (h : Ver B x) : readE (vtL x) = .ok x := by
  obtain ⟨a, b, c, k, n, rfl, h1, h2, h3, h4, h5, h6, h7, h8, h9, h10, h11⟩ := h
  obtain ⟨a, rfl⟩ := Int.eq_ofNat_of_zero_le h1
  obtain ⟨b, rfl⟩ := Int.eq_ofNat_of_zero_le h3
  obtain ⟨c, rfl⟩ := Int.eq_ofNat_of_zero_le h5
  obtain ⟨k, rfl⟩ := Int.eq_ofNat_of_zero_le h7
  obtain ⟨n, rfl⟩ := Int.eq_ofNat_of_zero_le h9
  rw [vtL_of]
  simp only [Int.toNat_natCast]
  generalize ht : (TL.numL a ++ [46] ++ TL.numL b ++ [46] ++ TL.numL c ++ if (k : Int) = 3 then [] else [45] ++ sortsL.getD k [] ++ [46] ++ TL.numL n) = t
  simp only [List.append_assoc] at ht
  have d0 : t.drop 0 = TL.numL a ++ ([46] ++ (TL.numL b ++ ([46] ++ (TL.numL c ++ if (k : Int) = 3 then [] else [45] ++ (sortsL.getD k [] ++ ([46] ++ TL.numL n)))))) := by rw [List.drop_zero]; exact ht.symm
  have r1 := num_go d0 (nodig (by decide) _)
  have d1 := drop_app d0
  have r2 := word_go d1
  have d2 := drop_app d1
  have r3 := num_go d2 (nodig (by decide) _)
  have d3 := drop_app d2
  have r4 := word_go d3
  have d4 := drop_app d3
  have len : ∀ i (l : List Nat), t.drop i = l → l ≠ [] ∨ i ≤ t.length → t.length = i + l.length := fun i l e hh => by
    have q := congrArg List.length e
    rw [List.length_drop] at q
    rcases hh with hh | hh
    · have : 0 < l.length := List.length_pos_iff.mpr hh
      omega
    · omega
  by_cases k3 : (k : Int) = 3
  · rw [if_pos k3] at d4
    have r5 := num_go d4 (fun _ _ z => by cases z)
    rw [List.append_nil] at d4
    have L := len _ _ d4 (.inl (TL.numL_ne c))
    have nd : isAt t [45] (0 + (TL.numL a).length + [46].length + (TL.numL b).length + [46].length + (TL.numL c).length) = false := by
      cases q : isAt t [45] (0 + (TL.numL a).length + [46].length + (TL.numL b).length + [46].length + (TL.numL c).length) with
      | false => rfl
      | true =>
        have := (List.getElem?_eq_some_iff.mp (isAt_one.mp q)).1
        omega
    have e : verE t 0 = .ok ([(a : Int), (b : Int), (c : Int), 3, 0], 0 + (TL.numL a).length + [46].length + (TL.numL b).length + [46].length + (TL.numL c).length) := by
      simp only [verE, r1, r2, r3, r4, r5, bind, Except.bind, nd]
      rfl
    unfold readE
    rw [e]
    have n0 := h11 k3
    show (if _ < t.length then _ else _) = _
    rw [if_neg (by omega), k3, n0]
  · rw [if_neg k3] at d4
    have r5 := num_go d4 (nodig (by decide) _)
    have d5 := drop_app d4
    have r6 := word_go d5
    have d6 := drop_app d5
    have r7 := sort_go (k := k) (by omega) d6
    have d7 := drop_app d6
    have r8 := word_go d7
    have d8 := drop_app d7
    have r9 := num_go (rest := []) (by rw [List.append_nil]; exact d8) (fun _ _ z => by cases z)
    have L := len _ _ d8 (.inl (TL.numL_ne n))
    have nd : isAt t [45] (0 + (TL.numL a).length + [46].length + (TL.numL b).length + [46].length + (TL.numL c).length) = true := by
      unfold isAt
      rw [d5]
      rfl
    change sortE t (0 + (TL.numL a).length + [46].length + (TL.numL b).length + [46].length + (TL.numL c).length + 1) = _ at r7
    unfold readE
    simp only [verE, r1, r2, r3, r4, r5, bind, Except.bind, nd, if_true, r7, r8, r9]
    show (if _ < t.length then _ else _) = _
    rw [if_neg (by omega)]


abbrev sLTold : Stmt := top 34
abbrev nLTold : List Str := ["_law_text_here", "_law_found", "e"]
abbrev pLTold : List Str := ["_law_text_here"]
theorem scLTold : FnScope nLTold pLTold (defScope sLTold) := ⟨rfl, rfl, rfl, by decide +kernel, rfl, by decide +kernel, by decide +kernel⟩
abbrev sLDue : Stmt := top 35
abbrev nLDue : List Str := ["_law_text_here", "_law_to", "_law_version_here"]
abbrev pLDue : List Str := ["_law_text_here"]
theorem scLDue : FnScope nLDue pLDue (defScope sLDue) := ⟨rfl, rfl, rfl, by decide +kernel, rfl, by decide +kernel, by decide +kernel⟩
def badT (j : Nat) : Str := Str.ofString "BadText " ++ Str.ofString (toString (j : Int))
def spLTold (K : PySem.W.Frag) : Sp := fun vs H Q _ => ∃ (t : List Nat), vs = [.str (Tx t)] ∧ t.length ≤ 600 ∧
  (∀ v, readE t = .ok v → ∀ H' q, Same H H' → H' q = some (.tup (v.map V.int)) → Q (.ref q) H') ∧ (∀ j, readE t = .error j → ∀ H', Same H H' → Q (.str (badT j)) H')
abbrev spLDue (K : PySem.W.Frag) : Sp := spLTold K
theorem num_le {t : List Nat} {i : Nat} (hi : i ≤ t.length) : (∀ j, numE t i = .error j → j ≤ t.length) ∧ ∀ j n, numE t i = .ok (j, n) → j ≤ t.length := by
  unfold numE
  cases h : numAt t i with
  | none => exact ⟨fun j e => by injection e with e; omega, fun j n e => by cases e⟩
  | some x =>
    obtain ⟨a, b⟩ := x
    exact ⟨fun j e => (by cases e), fun j n e => by injection e with e; injection e with e _; rw [← e]; exact numAt_le hi h⟩
theorem word_le {t w : List Nat} {i : Nat} (hi : i ≤ t.length) : (∀ j, wordE t w i = .error j → j ≤ t.length) ∧ ∀ j, wordE t w i = .ok j → j ≤ t.length := by
  have c := cmn_le' (t.drop i) w
  rw [List.length_drop] at c
  unfold wordE
  by_cases h : cmn (t.drop i) w = w.length
  · rw [if_pos h]
    exact ⟨fun j e => (by cases e), fun j e => by injection e with e; omega⟩
  · rw [if_neg h]
    exact ⟨fun j e => (by injection e with e; omega), fun j e => by cases e⟩
theorem sortG_le {t : List Nat} {i : Nat} (hi : i ≤ t.length) : ∀ (ws : List (List Nat)) (k : Nat), (∀ j, sortG t i k ws = .error j → j ≤ t.length) ∧ ∀ s j, sortG t i k ws = .ok (s, j) → j ≤ t.length
  | [], k => by
    unfold sortG
    exact ⟨fun j e => by injection e with e; omega, fun s j e => by cases e⟩
  | [] :: ws, k => by
    unfold sortG
    exact ⟨fun j e => by injection e with e; omega, fun s j e => by cases e⟩
  | (c :: r) :: ws, k => by
    unfold sortG
    by_cases q : isAt t [c] i = true
    · have h1 : i + 1 ≤ t.length := isAt_le q hi
      have w := word_le (w := r) h1
      rw [if_pos q]
      cases e0 : wordE t r (i + 1) with
      | error e => exact ⟨fun j e' => by injection e' with e'; rw [← e']; exact w.1 _ e0, fun s j e' => by cases e'⟩
      | ok e => exact ⟨fun j e' => (by cases e'), fun s j e' => by injection e' with e'; injection e' with _ e'; rw [← e']; exact w.2 _ e0⟩
    · rw [if_neg q]
      exact sortG_le hi ws (k + 1)
theorem ver_le {t : List Nat} {i j : Nat} (hi : i ≤ t.length) (h : verE t i = .error j) : j ≤ t.length := by
  unfold verE at h
  simp only [bind, Except.bind] at h
  cases e1 : numE t i with
  | error e => rw [e1] at h; injection h with h; rw [← h]; exact (num_le hi).1 _ e1
  | ok x =>
    obtain ⟨i1, a⟩ := x
    have l1 := (num_le hi).2 _ _ e1
    rw [e1] at h
    simp only at h
    cases e2 : wordE t [46] i1 with
    | error e => rw [e2] at h; injection h with h; rw [← h]; exact (word_le l1).1 _ e2
    | ok i2 =>
      have l2 := (word_le l1).2 _ e2
      rw [e2] at h
      simp only at h
      cases e3 : numE t i2 with
      | error e => rw [e3] at h; injection h with h; rw [← h]; exact (num_le l2).1 _ e3
      | ok x =>
        obtain ⟨i3, b⟩ := x
        have l3 := (num_le l2).2 _ _ e3
        rw [e3] at h
        simp only at h
        cases e4 : wordE t [46] i3 with
        | error e => rw [e4] at h; injection h with h; rw [← h]; exact (word_le l3).1 _ e4
        | ok i4 =>
          have l4 := (word_le l3).2 _ e4
          rw [e4] at h
          simp only at h
          cases e5 : numE t i4 with
          | error e => rw [e5] at h; injection h with h; rw [← h]; exact (num_le l4).1 _ e5
          | ok x =>
            obtain ⟨i5, c⟩ := x
            have l5 := (num_le l4).2 _ _ e5
            rw [e5] at h
            simp only at h
            by_cases q : isAt t [45] i5 = true
            · have l6 : i5 + 1 ≤ t.length := isAt_le q l5
              rw [if_pos q] at h
              cases e7 : sortE t (i5 + 1) with
              | error e => rw [e7] at h; injection h with h; rw [← h]; exact (sortG_le l6 _ _).1 _ e7
              | ok x =>
                obtain ⟨s, i7⟩ := x
                have l7 := (sortG_le l6 _ _).2 _ _ e7
                rw [e7] at h
                simp only at h
                cases e8 : wordE t [46] i7 with
                | error e => rw [e8] at h; injection h with h; rw [← h]; exact (word_le l7).1 _ e8
                | ok i8 =>
                  have l8 := (word_le l7).2 _ e8
                  rw [e8] at h
                  simp only at h
                  cases e9 : numE t i8 with
                  | error e => rw [e9] at h; injection h with h; rw [← h]; exact (num_le l8).1 _ e9
                  | ok x => rw [e9] at h; cases h
            · rw [if_neg q] at h
              cases h
theorem read_le {t : List Nat} {j : Nat} (h : readE t = .error j) : j ≤ t.length := by
  unfold readE at h
  cases e : verE t 0 with
  | error k => rw [e] at h; injection h with h; rw [← h]; exact ver_le (Nat.zero_le _) e
  | ok x =>
    obtain ⟨v, k⟩ := x
    rw [e] at h
    simp only at h
    by_cases q : k < t.length
    · rw [if_pos q] at h; injection h with h; omega
    · rw [if_neg q] at h; cases h
theorem bad_sz {j : Nat} (h : j ≤ 600) : (Str.ofString "BadText ").length + (Str.ofString (toString (j : Int))).length ≤ sizeLine := by
  rw [show (Str.ofString "BadText ").length = 8 by decide +kernel, tx_int (by omega), tx_len]
  have := num_len (i := (j : Int)) (by omega) (by omega)
  exact Nat.le_of_lt (small1000 (by omega))
section
variable {P : Program} {w : World} {K : PySem.W.Frag} {mg : Str → Option Value} {base : Heap} {CR CB fB aS : Addr} {qB : Str}
theorem ok_LTold {f : Addr} {fd : FuncData} {fReadVersion : Addr} {fdReadVersion : FuncData} (Z : Blt K mg) (RT : RdC K mg CR CB qB fB) (D : DefAt K mg "_law_told" sLTold pLTold f fd) (DReadVersion : DefAt K mg "read_version" sReadVersion pReadVersion fReadVersion fdReadVersion) (GReadVersion : FnOk P w K mg base (L2.CX P w) 7 fReadVersion fdReadVersion pReadVersion (spReadVersion K CR CB)) : FnOk P w K mg base CX0 8 f fd pLTold (spLTold K) := by
  refine D.F.ok scLTold (fun vs H Q E h => ?_) (fun cdv A outer s0 H vs Q E hr h => ?_)
  · obtain ⟨t, rfl, _⟩ := h
    rfl
  have hu := hu_of hr
  obtain ⟨t, rfl, ht, kQ, kE⟩ := h
  refine ⟨_, (pss_cons (ps_try_as (i := 2) (Wout := fun _ _ _ _ => False) rfl rfl scLTold.nd rfl rfl ⟨rfl, by decide, .inl RT.bt.gC⟩ takes0
    (fun W pn xe tk _ => pss_one (ps_set (i := 1) scLTold.nd rfl (Or.inl rfl) (by exact (pe_callS GReadVersion (hr.mono (by decide)) rfl DReadVersion.g DReadVersion.F.kp DReadVersion.b (fun σ => passAt tk σ) (by exact (pa_cons (pv 0) pa_nil))))))
    (fun a oe cls d pn hz hf => pss_one (ps_ret (by exact (pe_op op_add_str pe_str (pe_callB SkE.call_repr_int (by rfl) Z.repr (by decide +kernel) (pa_cons (pe_xf RT.bt.xf RT.bt.noN hz hf (pv 2)) pa_nil)))))))
    (pss_one (ps_ret (pv 1)))), ?_⟩
  refine ⟨_, rfl, t, rfl, ht, fun v hv H1 q s1 e1 => ?_, fun j hj H1 d s1 e1 => ?_⟩
  · exact ⟨_, rfl, kQ v hv H1 q s1 e1⟩
  · have hl := read_le hj
    refine ⟨true, RT.bt.te, fun _ a ha => ?_, fun q => Bool.noConfusion q⟩
    exact ⟨_, rfl, rfl, rfl, d, _, .int (j : Int), rfl, e1, by simp [List.lookup], _, rfl, log_small (by omega) (by omega), _, _, rfl, rfl, bad_sz (by omega), kE j hj H1 s1⟩
theorem ok_LDue {f : Addr} {fd : FuncData} {fLWalked : Addr} {fdLWalked : FuncData} (Z : Blt K mg) (D : DefAt K mg "_law_due" sLDue pLDue f fd) (DLWalked : DefAt K mg "_law_walked" sLWalked pLWalked fLWalked fdLWalked) (GLWalked : FnOk P w K mg base CX0 3 fLWalked fdLWalked pLWalked (spLWalked K)) : FnOk P w K mg base CX0 4 f fd pLDue (spLDue K) := by
  refine D.F.ok scLDue (fun vs H Q E h => ?_) (fun cdv A outer s0 H vs Q E hr h => ?_)
  · obtain ⟨t, rfl, _⟩ := h
    rfl
  have hu := hu_of hr
  obtain ⟨t, rfl, ht, kQ, kE⟩ := h
  refine ⟨_, (pss_cons (ps_asg (pe_call GLWalked (hr.mono (by decide)) rfl DLWalked.g DLWalked.F.kp DLWalked.b .nil pass0 (pa_cons (pv 0) (pa_cons pe_int pa_nil))) (pg_tup rfl (pgs_cons (pg_name (i := 1) scLDue.nd rfl (Or.inl rfl)) (pgs_cons (pg_name (i := 2) scLDue.nd rfl (Or.inl rfl)) pgs_nil))))
    (pss_one (ps_ret (pe_ifExp (PW.pt (pw_or (pt_cmpR op_lt (pv 1) (pe_callB call_len_str (by rfl) Z.len (by decide +kernel) (pa_cons (pv 0) pa_nil)) (nomark _)) (pw_or1 (pt_cmpR op_isN (pv 2) pe_non (nomark _))))) (pe_op op_add_str pe_str (pe_callB SkE.call_repr_int (by rfl) Z.repr (by decide +kernel) (pa_cons (pv 1) pa_nil))) (pv 2))))), ?_⟩
  refine ⟨_, rfl, t, rfl, ht, fun v j hv H1 p q s1 eq ep => ?_, fun j hv H1 p s1 ep => ?_⟩
  · refine ⟨p, _, rfl, SqT.of ep, rfl, _, _, rfl, _, _, rfl, rfl, ?_⟩
    refine ⟨_, rfl, _, rfl, _, rfl, by rw [tx_len]; exact Nat.le_of_lt (small1000 (by omega)), _, _, rfl, rfl, _, rfl, ?_⟩
    rw [tx_len]
    by_cases hj : j < t.length
    · rw [decide_eq_true (show (j : Int) < (t.length : Int) by omega)]
      refine iteT ?_
      refine iteT ?_
      exact ⟨_, rfl, _, rfl, log_small (by omega) (by omega), _, _, rfl, rfl, bad_sz (by omega), kE j (by unfold readE; rw [hv]; exact if_pos hj) H1 s1⟩
    · rw [decide_eq_false (show ¬ (j : Int) < (t.length : Int) by omega)]
      refine iteF ?_
      refine ⟨_, rfl, rfl, _, rfl, ?_⟩
      rw [decide_eq_false (by intro z; cases z)]
      refine iteF ?_
      exact ⟨_, rfl, kQ v (by unfold readE; rw [hv]; exact if_neg hj) H1 q s1 eq⟩
  · have hl := ver_le (Nat.zero_le _) hv
    have hr : readE t = .error j := by unfold readE; rw [hv]
    refine ⟨p, _, rfl, SqT.of ep, rfl, _, _, rfl, _, _, rfl, rfl, ?_⟩
    refine ⟨_, rfl, _, rfl, _, rfl, by rw [tx_len]; exact Nat.le_of_lt (small1000 (by omega)), _, _, rfl, rfl, _, rfl, ?_⟩
    have fin : tOp (fun x y H Q => ∃ i j, x = V.str i ∧ y = V.str j ∧ i.length + j.length ≤ sizeLine ∧ Q (V.str (i ++ j)) H) (tC (V.str (Str.ofString "BadText "))) (tCB (fun xs H Q => ∃ i, xs = [V.int i] ∧ i.natAbs.log2 < 1920 ∧ Q (V.str (Str.ofString (toString i))) H) (tCons (tVar 1) tNil)) [some (V.str (Tx t)), some (V.int (j : Int)), some V.non] H1 (fun v H' => Q v H') :=
      ⟨_, rfl, _, rfl, log_small (by omega) (by omega), _, _, rfl, rfl, bad_sz (by omega), kE j hr H1 s1⟩
    cases hd : decide ((j : Int) < ((Tx t).length : Int)) with
    | true =>
      refine iteT ?_
      refine iteT ?_
      exact fin
    | false =>
      refine iteF ?_
      refine ⟨_, rfl, rfl, _, rfl, ?_⟩
      rw [decide_eq_true (show V.non = V.non from rfl)]
      refine iteT ?_
      exact fin
end


/-- repr of a short text -/
theorem rp_str {l : List Nat} (hl : l.length ≤ 700) (hc : ∀ c ∈ l, c < 128) : Rp (.str (Tx l)) := by
  have hr := PySem.StrLaws.reprText_len (Tx l) (fun c h => by
    rw [tx_list] at h
    exact Nat.lt_of_lt_of_le (hc c h) (by decide))
  rw [tx_len] at hr
  refine ⟨rfl, ?_, by show 0 < 60; decide, ?_⟩
  · unfold SeqAt.shaped
    rw [Bool.and_eq_true]
    refine ⟨?_, decide_eq_true (by show 0 ≤ 64; decide)⟩
    show PyData.canLay0 (.str (Tx l)) = true
    show PyData.strOk (Tx l) = true
    unfold PyData.strOk
    rw [← Array.all_toList, tx_list, List.all_eq_true]
    intro c h
    have := hc c h
    exact decide_eq_true (by omega)
  · show (reprText (Tx l)).length ≤ sizeLine
    refine Nat.le_trans hr (Nat.le_trans (show 10 * l.length + 2 ≤ 7002 by omega) (by decide))
/-- the signs that the texts of versions have -/
abbrev Cl (l : List Nat) : Prop := ∀ c ∈ l, c < 128
theorem Cl.app {l m : List Nat} (h : Cl l) (g : Cl m) : Cl (l ++ m) := fun c hc => (List.mem_append.mp hc).elim (h c) (g c)
theorem Cl.take {l : List Nat} (h : Cl l) (n : Nat) : Cl (l.take n) := fun c hc => h c (List.mem_of_mem_take hc)
theorem Cl.drop {l : List Nat} (h : Cl l) (n : Nat) : Cl (l.drop n) := fun c hc => h c (List.mem_of_mem_drop hc)
theorem Cl.num (n : Nat) : Cl (TL.numL n) := fun c hc => by have := TL.numL_digits n c hc; omega
theorem Cl.vt (x : List Int) : Cl (vtL x) := by
  unfold vtL
  split
  · rename_i a b c k n
    have d1 : Cl [46] := by decide
    have d2 : Cl [45] := by decide
    have ds : Cl (sortsL.getD k.toNat []) := by
      rw [List.getD_eq_getElem?_getD]
      match k.toNat with
      | 0 => decide
      | 1 => decide
      | 2 => decide
      | j + 3 => exact fun c hc => by cases hc
    refine ((((Cl.num _).app d1).app (Cl.num _)).app d1).app (Cl.num _) |>.app ?_
    split
    · exact fun c hc => by cases hc
    · exact ((d2.app ds).app d1).app (Cl.num _)
  · exact fun c hc => by cases hc
theorem vt_len {B : Int} {x : List Int} (h : Ver B x) (hB : B ≤ 10000000000) : (vtL x).length ≤ 70 := by
  obtain ⟨a, b, c, k, n, rfl, h1, h2, h3, h4, h5, h6, h7, h8, h9, h10, h11⟩ := h
  rw [vtL_of]
  have n0 := num_len h1 (by omega)
  have n1 := num_len h3 (by omega)
  have n2 := num_len h5 (by omega)
  have n4 := num_len h9 (by omega)
  have ds : (sortsL.getD k.toNat []).length ≤ 5 := by
    rw [List.getD_eq_getElem?_getD]
    match k.toNat with
    | 0 => decide
    | 1 => decide
    | 2 => decide
    | j + 3 => show 0 ≤ 5; decide
  simp only [List.length_append, List.length_cons, List.length_nil]
  split
  · simp only [List.length_nil]; omega
  · simp only [List.length_append, List.length_cons, List.length_nil]; omega
theorem bad_tx {j : Nat} : ∃ l, badT j = Tx l ∧ Cl l ∧ l.length = 8 + (TL.numL j).length := by
  have e : Str.ofString "BadText " = Tx [66, 97, 100, 84, 101, 120, 116, 32] := by decide +kernel
  refine ⟨[66, 97, 100, 84, 101, 120, 116, 32] ++ TL.numL j, ?_, (by decide : Cl [66, 97, 100, 84, 101, 120, 116, 32]).app (Cl.num _), by simp; omega⟩
  unfold badT
  rw [e, tx_int (by omega), Int.toNat_natCast, tx_app]


/-! the figures of a text of at most a hundred signs -/
theorem fold_lt : ∀ (l : List Nat) (a : Nat), NumText.AllDigits l → l.foldl (fun acc c => acc * 10 + (c - 48)) a < (a + 1) * 10 ^ l.length
  | [], a, _ => by simp
  | c :: l, a, h => by
    have hc := h.head
    have ih := fold_lt l (a * 10 + (c - 48)) h.tail
    show l.foldl _ (a * 10 + (c - 48)) < (a + 1) * 10 ^ (l.length + 1)
    refine Nat.lt_of_lt_of_le ih ?_
    rw [Nat.pow_succ, Nat.mul_comm (10 ^ l.length) 10, ← Nat.mul_assoc]
    exact Nat.mul_le_mul_right _ (by omega)
theorem val_lt {l : List Nat} {m : Nat} (h : NumText.AllDigits l) (hl : l.length ≤ m) : NumText.digitsVal l < 10 ^ m := by
  have := fold_lt l 0 h
  rw [Nat.zero_add, Nat.one_mul] at this
  exact Nat.lt_of_lt_of_le this (Nat.pow_le_pow_right (by decide) hl)
theorem numE_lt {t : List Nat} {i j n : Nat} (h : numE t i = .ok (j, n)) : n < 10 ^ t.length := by
  unfold numE at h
  cases e : numAt t i with
  | none => rw [e] at h; cases h
  | some x =>
    rw [e] at h
    injection h with h
    subst h
    unfold numAt at e
    by_cases q : t[i]? = some 48
    · rw [if_pos q] at e
      injection e with e
      injection e with _ e
      rw [← e]
      exact Nat.pow_pos (by decide)
    · rw [if_neg q] at e
      by_cases q2 : figs t i = i
      · rw [if_pos q2] at e; cases e
      · rw [if_neg q2] at e
        injection e with e
        injection e with _ e
        rw [← e]
        exact val_lt (figs_digits t i) (by rw [List.length_take, List.length_drop]; omega)
theorem sortG_idx {t : List Nat} {i : Nat} : ∀ (ws : List (List Nat)) (k s j : Nat), sortG t i k ws = .ok (s, j) → s < k + ws.length
  | [], k, s, j, h => by unfold sortG at h; cases h
  | [] :: ws, k, s, j, h => by unfold sortG at h; cases h
  | (c :: r) :: ws, k, s, j, h => by
    unfold sortG at h
    by_cases q : isAt t [c] i = true
    · rw [if_pos q] at h
      cases e : wordE t r (i + 1) with
      | error x => rw [e] at h; cases h
      | ok x =>
        rw [e] at h
        injection h with h
        injection h with h _
        simp only [List.length_cons]
        omega
    · rw [if_neg q] at h
      have := sortG_idx ws (k + 1) s j h
      simp only [List.length_cons]
      omega
theorem ver_small {t : List Nat} {i j : Nat} {v : List Int} (h : verE t i = .ok (v, j)) : ∃ a b c s n : Nat, v = [(a : Int), (b : Int), (c : Int), (s : Int), (n : Int)] ∧ a < 10 ^ t.length ∧ b < 10 ^ t.length ∧ c < 10 ^ t.length ∧ s ≤ 3 ∧ n < 10 ^ t.length := by
  unfold verE at h
  simp only [bind, Except.bind] at h
  cases e1 : numE t i with
  | error e => rw [e1] at h; cases h
  | ok x =>
    obtain ⟨i1, a⟩ := x
    rw [e1] at h
    simp only at h
    cases e2 : wordE t [46] i1 with
    | error e => rw [e2] at h; cases h
    | ok i2 =>
      rw [e2] at h
      simp only at h
      cases e3 : numE t i2 with
      | error e => rw [e3] at h; cases h
      | ok x =>
        obtain ⟨i3, b⟩ := x
        rw [e3] at h
        simp only at h
        cases e4 : wordE t [46] i3 with
        | error e => rw [e4] at h; cases h
        | ok i4 =>
          rw [e4] at h
          simp only at h
          cases e5 : numE t i4 with
          | error e => rw [e5] at h; cases h
          | ok x =>
            obtain ⟨i5, c⟩ := x
            rw [e5] at h
            simp only at h
            by_cases q : isAt t [45] i5 = true
            · rw [if_pos q] at h
              cases e7 : sortE t (i5 + 1) with
              | error e => rw [e7] at h; cases h
              | ok x =>
                obtain ⟨s, i7⟩ := x
                rw [e7] at h
                simp only at h
                cases e8 : wordE t [46] i7 with
                | error e => rw [e8] at h; cases h
                | ok i8 =>
                  rw [e8] at h
                  simp only at h
                  cases e9 : numE t i8 with
                  | error e => rw [e9] at h; cases h
                  | ok x =>
                    obtain ⟨i9, n⟩ := x
                    rw [e9] at h
                    injection h with h
                    injection h with h _
                    have hs : s < 0 + 3 := sortG_idx sortsL 0 s i7 e7
                    exact ⟨a, b, c, s, n, h.symm, numE_lt e1, numE_lt e3, numE_lt e5, by omega, numE_lt e9⟩
            · rw [if_neg q] at h
              injection h with h
              injection h with h _
              exact ⟨a, b, c, 3, 0, h.symm, numE_lt e1, numE_lt e3, numE_lt e5, by omega, Nat.pow_pos (by decide)⟩
theorem short_big : ∀ {x : List Int}, (∀ z ∈ x, 0 ≤ z ∧ z < 10 ^ 100) → PyData.leavesShortAll 100 (x.map PyData.int) = true
  | [], _ => rfl
  | z :: x, h => by
    have h1 := h z (List.mem_cons.mpr (.inl rfl))
    show (PyData.leavesShort 100 (.int z) && PyData.leavesShortAll 100 (x.map PyData.int)) = true
    rw [show PyData.leavesShort 100 (.int z) = true from decide_eq_true (PyProof.Rows.toString_length_le h1.1 (by decide) h1.2), short_big fun y hy => h y (List.mem_cons.mpr (.inr hy))]
    rfl
theorem show_big : ∀ {x : List Int}, (∀ z ∈ x, 0 ≤ z ∧ z < 10 ^ 100) → PyData.showableAll (x.map PyData.int) = true
  | [], _ => rfl
  | z :: x, h => by
    have h1 := h z (List.mem_cons.mpr (.inl rfl))
    have : z.natAbs < 2 ^ 1920 := Nat.lt_of_lt_of_le (show z.natAbs < 10 ^ 100 by omega) (by decide)
    have l : z.natAbs.log2 < 1920 := by
      by_cases e : z.natAbs = 0
      · rw [e]; decide
      · exact (Nat.log2_lt e).mpr this
    show (decide (z.natAbs.log2 < 1920) && PyData.showableAll (x.map PyData.int)) = true
    rw [decide_eq_true l, show_big fun y hy => h y (List.mem_cons.mpr (.inr hy))]
    rfl
theorem rp_big {x : List Int} (h : ∀ z ∈ x, 0 ≤ z ∧ z < 10 ^ 100) (hl : x.length ≤ 5) : Rp (.tuple (x.map PyData.int)) := by
  have dp := dep_ints x
  refine ⟨show_big h, ?_, ?_, ?_⟩
  · unfold SeqAt.shaped
    rw [Bool.and_eq_true]
    exact ⟨lay_ints x, decide_eq_true (by simp only [PyData.depth]; omega)⟩
  · simp only [PyData.depth]; omega
  · have hh := PyData.shown_le_bulk 100 (by decide) (.tuple (x.map PyData.int)) (short_big h)
    have hb : PyData.bulk (.tuple (x.map PyData.int)) = x.length := bulk_ints x
    rw [hb] at hh
    rw [sizeLine_eq]
    omega
theorem rp_read {u : List Nat} {v : List Int} (hu : u.length ≤ 100) (h : readE u = .ok v) : Rp (.tuple (v.map PyData.int)) := by
  unfold readE at h
  cases e : verE u 0 with
  | error k => rw [e] at h; cases h
  | ok x =>
    obtain ⟨w, k⟩ := x
    rw [e] at h
    simp only at h
    by_cases q : k < u.length
    · rw [if_pos q] at h; cases h
    · rw [if_neg q] at h
      injection h with h
      subst h
      obtain ⟨a, b, c, s, n, rfl, h1, h2, h3, h4, h5⟩ := ver_small e
      have P : (10 : Nat) ^ u.length ≤ 10 ^ 100 := Nat.pow_le_pow_right (by decide) hu
      have g : ∀ m : Nat, m < 10 ^ u.length → (0 : Int) ≤ (m : Int) ∧ (m : Int) < 10 ^ 100 := fun m hm => by
        have : m < 10 ^ 100 := Nat.lt_of_lt_of_le hm P
        omega
      refine rp_big (fun z hz => ?_) (by show 5 ≤ 5; decide)
      simp only [List.mem_cons, List.not_mem_nil, or_false] at hz
      rcases hz with rfl | rfl | rfl | rfl | rfl
      · exact g _ h1
      · exact g _ h2
      · exact g _ h3
      · omega
      · exact g _ h5


abbrev sLaw : Stmt := top 36
abbrev nLaw : List Str := ["_law_script", "_law_deck_here", "_law_versions_here", "_law_at", "_law_version_here", "_law_due_here", "_law_told_here", "_law_cut", "_law_text_here"]
abbrev pLaw : List Str := ["_law_script"]
theorem scLaw : FnScope nLaw pLaw (defScope sLaw) := ⟨rfl, rfl, rfl, by decide +kernel, rfl, by decide +kernel, by decide +kernel⟩
def spLaw (K : PySem.W.Frag) : Sp := fun vs H Q _ => ∃ (a : Addr) (ns : List Int), vs = [.ref a] ∧ SqL K H a (ns.map V.int) ∧ ns.length ≤ 63 ∧ ∀ H', Q (.bl true) H'
/-- a for over enumerate of a list -/
theorem for_enumL {K : PySem.W.Frag} {a : Addr} {xs : List V} {g : TG} {tb : TS} {D : Ends} {σ : L2.St} {H : Hp} (Pv : Nat → L2.St → Hp → Prop) (h0 : Pv 0 σ H) (hq : ∀ i σ H, Pv i σ H → SqL K H a xs)
    (hs : ∀ (i : Nat) (x : V) (T : Addr) (σ : L2.St) (H : Hp), xs[i]? = some x → Pv i σ H → H T = none → g (.ref T) σ (upd H T (.tup [.int (i : Nat), x])) fun σ2 H2 => tb { D with nx := Pv (i + 1), ct := Pv (i + 1), bk := D.nx } σ2 H2) (hd : ∀ σ H, Pv xs.length σ H → D.nx σ H) :
    ∃ W : Nat → Nat → L2.St → Hp → Prop, (∃ m, W 0 m σ H) ∧ ∀ i m σ H, W i m σ H →
      ((Ite K a).stop i H ∧ D.nx σ H) ∨ ((Ite K a).go i H ∧ ∃ N : L2.St → Hp → Prop, (∀ σ' H', N σ' H' → ∃ m', m' < m ∧ W (i + 1) m' σ' H') ∧ ∀ v H', (Ite K a).yld i H v H' → g v σ H' fun σ2 H2 => tb { D with nx := N, ct := N, bk := D.nx } σ2 H2) := by
  refine ⟨fun i m σ H => m = xs.length - i ∧ i ≤ xs.length ∧ Pv i σ H, ⟨xs.length, rfl, Nat.zero_le _, h0⟩, ?_⟩
  rintro i m σ H ⟨rfl, hi, p⟩
  have qx := hq i σ H p
  by_cases hlt : i < xs.length
  · have hx : xs[i]? = some xs[i] := List.getElem?_eq_getElem hlt
    refine .inr ⟨⟨xs, _, qx, hx⟩, Pv (i + 1), fun σ' H' p' => ⟨xs.length - (i + 1), by omega, rfl, hlt, p'⟩, fun v H' y => ?_⟩
    obtain ⟨T, x', rfl, hT, rfl, f1⟩ := y
    exact hs i x' T σ H (f1 xs qx) p hT
  · have e : i = xs.length := by omega
    subst e
    exact .inl ⟨⟨xs, qx, Nat.le_refl _⟩, hd σ H p⟩
def texts9 (L : List Nat) (r : Int) : List V := [.str (cutS (Tx L) none (some r)), .str (cutS (Tx L) none (some (-1))), .str (Tx L ++ Tx [46]), .str (Tx L ++ Tx [45]), .str (Tx L ++ Tx [32]), .str (Tx L ++ Tx [45, 114, 99, 46, 49]), .str (Tx L ++ Tx [46, 48]), .str (Tx [48] ++ Tx L), .str (cutS (Tx L) (some 1) none)]
theorem cut_cl {L : List Nat} (h : Cl L) (lo hi : Option Int) : ∃ u, cutS (Tx L) lo hi = Tx u ∧ u.length ≤ L.length ∧ Cl u := by
  unfold cutS
  rw [tx_list]
  exact ⟨_, rfl, by rw [List.length_take, List.length_drop]; omega, (h.drop _).take _⟩
theorem texts9_ok {L : List Nat} {r : Int} (h : Cl L) (hl : L.length ≤ 70) : ∀ v ∈ texts9 L r, ∃ u, v = .str (Tx u) ∧ u.length ≤ 100 ∧ Cl u := by
  intro v hv
  have C : ∀ lo hi, ∃ u, V.str (cutS (Tx L) lo hi) = .str (Tx u) ∧ u.length ≤ 100 ∧ Cl u := fun lo hi => by
    obtain ⟨u, e, l, c⟩ := cut_cl h lo hi
    exact ⟨u, by rw [e], by omega, c⟩
  have A : ∀ m : List Nat, m.length ≤ 30 → Cl m → ∃ u, V.str (Tx L ++ Tx m) = .str (Tx u) ∧ u.length ≤ 100 ∧ Cl u := fun m hm hc => ⟨L ++ m, by rw [tx_app], by rw [List.length_append]; omega, h.app hc⟩
  simp only [texts9, List.mem_cons, List.not_mem_nil, or_false] at hv
  rcases hv with rfl | rfl | rfl | rfl | rfl | rfl | rfl | rfl | rfl
  · exact C _ _
  · exact C _ _
  · exact A _ (by decide) (by decide)
  · exact A _ (by decide) (by decide)
  · exact A _ (by decide) (by decide)
  · exact A _ (by decide) (by decide)
  · exact A _ (by decide) (by decide)
  · exact ⟨[48] ++ L, by rw [tx_app], by rw [List.length_append]; show 1 + L.length ≤ 100; omega, (by decide : Cl [48]).app h⟩
  · exact C _ _
/-- a right text is read, and nothing is raised -/
def spReadOk : Sp := fun vs H Q _ => ∃ (t : List Nat) (v : List Int), vs = [.str (Tx t)] ∧ t.length ≤ 600 ∧ readE t = .ok v ∧ ∀ H' q, Same H H' → H' q = some (.tup (v.map V.int)) → Q (.ref q) H'
theorem readOk_sub {K : PySem.W.Frag} {CR CB : Addr} {vs : List V} {H : Hp} {Q : VK} {E : XK} (h : spReadOk vs H Q E) : spReadVersion K CR CB vs H Q E0 := by
  obtain ⟨t, v, rfl, ht, hv, k⟩ := h
  exact ⟨t, rfl, ht, fun v' hv' H' q s e => by rw [hv] at hv'; injection hv' with hv'; exact k H' q s (by rw [hv']; exact e), fun j hj => by rw [hv] at hj; cases hj⟩
theorem noexc {P : Program} {w : World} {K : PySem.W.Frag} {mg : Str → Option Value} {base : Heap} {k : Nat} {f : Addr} {fd : FuncData} {ps : List Str} {sp sp' : Sp} (F : FnOk P w K mg base (L2.CX P w) k f fd ps sp) (h : ∀ vs H Q E, sp' vs H Q E → sp vs H Q E0) : FnOk P w K mg base CX0 k f fd ps sp' :=
  ⟨fun vs H Q E q => F.len vs H Q E0 (h vs H Q E q), fun A st s H as us vs Q E hr hI hb r q => codeAny_mono (F.run A st s H as us vs Q E0 hr hI hb r (h vs H Q E q)) fun x s' hx => by
    cases x with
    | ok fl => cases fl <;> exact hx
    | error e =>
      obtain ⟨_, _, _, _, _, _, _, _, _, _, _, _, z⟩ := hx
      exact z.elim⟩
section
variable {P : Program} {w : World} {K : PySem.W.Frag} {mg : Str → Option Value} {base : Heap} {CR CB fB aS : Addr} {qB : Str}
theorem ok_Law {f : Addr} {fd : FuncData} {fLDeck : Addr} {fdLDeck : FuncData} {fLDraw : Addr} {fdLDraw : FuncData} {fLDue : Addr} {fdLDue : FuncData} {fLText : Addr} {fdLText : FuncData} {fLTold : Addr} {fdLTold : FuncData} {fLVersions : Addr} {fdLVersions : FuncData} {fReadVersion : Addr} {fdReadVersion : FuncData} {fVersionText : Addr} {fdVersionText : FuncData} (Z : Blt K mg) (D : DefAt K mg "law" sLaw pLaw f fd) (DLDeck : DefAt K mg "_law_deck" sLDeck pLDeck fLDeck fdLDeck) (GLDeck : FnOk P w K mg base CX0 1 fLDeck fdLDeck pLDeck (spLDeck K)) (DLDraw : DefAt K mg "_law_draw" sLDraw pLDraw fLDraw fdLDraw) (GLDraw : FnOk P w K mg base CX0 1 fLDraw fdLDraw pLDraw spLDraw) (DLDue : DefAt K mg "_law_due" sLDue pLDue fLDue fdLDue) (GLDue : FnOk P w K mg base CX0 4 fLDue fdLDue pLDue (spLDue K)) (DLText : DefAt K mg "_law_text" sLText pLText fLText fdLText) (GLText : FnOk P w K mg base CX0 1 fLText fdLText pLText (spLText K)) (DLTold : DefAt K mg "_law_told" sLTold pLTold fLTold fdLTold) (GLTold : FnOk P w K mg base CX0 8 fLTold fdLTold pLTold (spLTold K)) (DLVersions : DefAt K mg "_law_versions" sLVersions pLVersions fLVersions fdLVersions) (GLVersions : FnOk P w K mg base CX0 5 fLVersions fdLVersions pLVersions (spLVersions K)) (DReadVersion : DefAt K mg "read_version" sReadVersion pReadVersion fReadVersion fdReadVersion) (GReadVersion : FnOk P w K mg base CX0 7 fReadVersion fdReadVersion pReadVersion (spReadOk)) (DVersionText : DefAt K mg "version_text" sVersionText pVersionText fVersionText fdVersionText) (GVersionText : FnOk P w K mg base CX0 4 fVersionText fdVersionText pVersionText (spVersionText K)) (kbVersionText : KBinds K fdVersionText pVersionText ["version"] kwG kwV) (kbReadVersion : KBinds K fdReadVersion pReadVersion ["text"] kwG kwV) : FnG P w K mg base 9 f fd pLaw (spLaw K) := by
  refine FnG.body D.F scLaw (fun vs H Q E h => ?_) (fun cdv A outer s0 H vs Q hgd hr h => ?_)
  · obtain ⟨a, ns, rfl, _⟩ := h
    rfl
  have hu := hu_of hr
  obtain ⟨a, ns, rfl, ha, hn, k⟩ := h
  refine ⟨_, (pss_cons (ps_set (i := 1) scLaw.nd rfl (Or.inl rfl) (pe_call GLDeck (hr.mono (by decide)) rfl DLDeck.g DLDeck.F.kp DLDeck.b .nil pass0 (pa_cons (pv 0) pa_nil)))
    (pss_cons (ps_set (i := 2) scLaw.nd rfl (Or.inl rfl) (pe_call GLVersions (hr.mono (by decide)) rfl DLVersions.g DLVersions.F.kp DLVersions.b .nil pass0 (pa_cons (pv 1) (pa_cons pe_int pa_nil))))
    (pss_cons (ps_for PassesOwn.never rfl (pi_enum (by rfl) Z.enumerate (pa_cons (pv 2) pa_nil)) (pg_tup rfl (pgs_cons (pg_name (i := 3) scLaw.nd rfl (Or.inl rfl)) (pgs_cons (pg_name (i := 4) scLaw.nd rfl (Or.inl rfl)) pgs_nil)))
    (pss_cons (ps_set (i := 5) scLaw.nd rfl (Or.inl rfl) (pe_call GLText (hr.mono (by decide)) rfl DLText.g DLText.F.kp DLText.b .nil pass0 (pa_cons (pv 4) pa_nil)))
      (Evl.pss_cut (ps_set (i := 6) scLaw.nd rfl (Or.inl rfl) (pe_ifExp (pt_cmpR op_eq (pe_op op_mod (pe_callTy call_int1 (by rfl) Z.int (by decide +kernel) (pa_cons (pv 3) pa_nil)) pe_int) pe_int (nomark _)) (pe_call GVersionText (hr.mono (by decide)) rfl DVersionText.g DVersionText.F.kp DVersionText.b .nil pass0 (pa_cons (pv 4) pa_nil)) (pe_callK0 GVersionText (hr.mono (by decide)) rfl DVersionText.g DVersionText.F.kp kbVersionText pass0 (pk_cons (pv 4) pk_nil))))
      (pss_cons (ps_if (PW.pt (pw_or (pt_cmpR op_ne (pe_callB (call_reprD hgd hr.units) (by rfl) Z.repr (by decide +kernel) (pa_cons (pv 6) pa_nil)) (pe_callB (call_reprD hgd hr.units) (by rfl) Z.repr (by decide +kernel) (pa_cons (pv 5) pa_nil)) (nomark _)) (pw_or1 (pt_cmpR op_ne (pe_callB (call_reprD hgd hr.units) (by rfl) Z.repr (by decide +kernel) (pa_cons (pe_call GReadVersion (hr.mono (by decide)) rfl DReadVersion.g DReadVersion.F.kp DReadVersion.b .nil pass0 (pa_cons (pv 5) pa_nil)) pa_nil)) (pe_callB (call_reprD hgd hr.units) (by rfl) Z.repr (by decide +kernel) (pa_cons (pv 4) pa_nil)) (nomark _)))))
      (pss_one (ps_ret pe_bl))
      pss_nil)
      (pss_cons (ps_if (pt_cmpR op_ne (pe_callB (call_reprD hgd hr.units) (by rfl) Z.repr (by decide +kernel) (pa_cons (pe_callK0 GReadVersion (hr.mono (by decide)) rfl DReadVersion.g DReadVersion.F.kp kbReadVersion pass0 (pk_cons (pv 5) pk_nil)) pa_nil)) (pe_callB (call_reprD hgd hr.units) (by rfl) Z.repr (by decide +kernel) (pa_cons (pv 4) pa_nil)) (nomark _))
      (pss_one (ps_ret pe_bl))
      pss_nil)
      (pss_cons (ps_set (i := 7) scLaw.nd rfl (Or.inl rfl) (pe_call GLDraw (hr.mono (by decide)) rfl DLDraw.g DLDraw.F.kp DLDraw.b .nil pass0 (pa_cons (pv 1) (pa_cons (pe_op op_add (pe_callB call_len_str (by rfl) Z.len (by decide +kernel) (pa_cons (pv 5) pa_nil)) pe_int) pa_nil))))
      (pss_one (ps_for PassesOwn.never rfl (pi_list (pe_lst (pa_cons (pe_slice sl_str (pv 5) po_none (po_some (pv 7))) (pa_cons (pe_slice sl_str (pv 5) po_none (po_some (pe_un un_neg pe_int))) (pa_cons (pe_op op_add_str (pv 5) pe_str) (pa_cons (pe_op op_add_str (pv 5) pe_str) (pa_cons (pe_op op_add_str (pv 5) pe_str) (pa_cons (pe_op op_add_str (pv 5) pe_str) (pa_cons (pe_op op_add_str (pv 5) pe_str) (pa_cons (pe_op op_add_str pe_str (pv 5)) (pa_cons (pe_slice sl_str (pv 5) (po_some pe_int) po_none) pa_nil))))))))))) (pg_name (i := 8) scLaw.nd rfl (Or.inl rfl))
      (pss_one (ps_if (pt_cmpR op_ne (pe_callB (call_reprD hgd hr.units) (by rfl) Z.repr (by decide +kernel) (pa_cons (pe_call GLTold (hr.mono (by decide)) rfl DLTold.g DLTold.F.kp DLTold.b .nil pass0 (pa_cons (pv 8) pa_nil)) pa_nil)) (pe_callB (call_reprD hgd hr.units) (by rfl) Z.repr (by decide +kernel) (pa_cons (pe_call GLDue (hr.mono (by decide)) rfl DLDue.g DLDue.F.kp DLDue.b .nil pass0 (pa_cons (pv 8) pa_nil)) pa_nil)) (nomark _))
        (pss_one (ps_ret pe_bl))
        pss_nil))))))))))
    (pss_one (ps_ret pe_bl))))), ?_⟩
  refine ⟨_, rfl, a, ns, rfl, ha, hn, fun H1 d l s1 hd hlN D1 => ?_⟩
  refine ⟨_, rfl, d, l, 10, rfl, D1, by decide, fun H2 p xs k2 D2 hp e2 len2 hv2 => ?_⟩
  have npl : p ≠ l := D1.free hp
  refine ⟨_, rfl, p, xs, rfl, SqL.of e2, for_enumL (xs := xs) (fun i σ H' => ∃ v3 v4 v5 v6 v7 v8, σ = [some (.ref a), some (.ref d), some (.ref p), v3, v4, v5, v6, v7, v8] ∧ Kp d l H2 H' ∧ Deck d l H') ⟨_, _, _, _, _, _, rfl, Kp.refl _, D2⟩ (fun i σ H' ⟨_, _, _, _, _, _, _, kk, _⟩ => SqL.of (kk.lst D2 npl e2)) ?_ ?_⟩
  · rintro i v T σ H3 hi ⟨v3, v4, v5, v6, v7, v8, rfl, k3, D3⟩ hT
    obtain ⟨x, ⟨ta, rfl, hta⟩, hv⟩ := (hv2 v (List.mem_of_getElem? hi)).kp k3 D2
    have B1 : (1000000000 + ((10 : Nat) : Int)) ≤ 10000000000 := by decide
    have cl := Cl.vt x
    have ln := vt_len hv B1
    have rv := rp_ver hv (by decide)
    have rb := read_back hv
    have dpv : ∀ H', Same H3 H' → Dp K H' (.ref ta) (.tuple (x.map PyData.int)) := fun H' s => IV.dp ⟨ta, rfl, tupS_same s hta⟩
    have rs := rp_str (l := vtL x) (by omega) cl
    refine ⟨T, _, rfl, SqT.of upd_same, rfl, _, _, rfl, _, _, rfl, rfl, ?_⟩
    have s3 : Same H3 (upd H3 T (.tup [.int (i : Nat), .ref ta])) := Same.new hT
    generalize (upd H3 T (.tup [.int (i : Nat), .ref ta])) = H4 at s3
    refine ⟨_, rfl, ta, x, _, rfl, tupS_same s3 hta, hv, B1, fun H5 s5 => ?_⟩
    refine ⟨fun σ' H' => σ' = [some (.ref a), some (.ref d), some (.ref p), some (.int (i : Nat)), some (.ref ta), some (.str (Tx (vtL x))), some (.str (Tx (vtL x))), v7, v8] ∧ Same H5 H', ?_, ?_⟩
    · refine ⟨_, rfl, .inl ⟨_, rfl, _, _, rfl, rfl, by show (0 : Int) < 2; decide, rfl, _, rfl, ?_⟩⟩
      cases hdd : decide (V.int (((i : Nat) : Int) % 2) = V.int 0) with
      | true =>
        refine iteT ?_
        exact ⟨_, rfl, ta, x, _, rfl, tupS_same (s3.trans s5) hta, hv, B1, fun H' s => ⟨rfl, s⟩⟩
      | false =>
        refine iteF ?_
        exact ⟨_, rfl, ta, x, _, rfl, tupS_same (s3.trans s5) hta, hv, B1, fun H' s => ⟨rfl, s⟩⟩
    rintro σ6 H6 ⟨rfl, s6⟩
    have s36 := (s3.trans s5).trans s6
    refine ⟨_, rfl, _, _, rfl, .str _, rs.1, rs.2.1, rs.2.2.1, rs.2.2.2, _, rfl, _, _, rfl, .str _, rs.1, rs.2.1, rs.2.2.1, rs.2.2.2, rfl, _, rfl, ?_⟩
    rw [decide_eq_true rfl]
    refine iteF ?_
    refine ⟨_, rfl, vtL x, x, rfl, by omega, rb, fun H7 q7 s7 e7 => ?_⟩
    refine ⟨_, _, rfl, IV.dp ⟨q7, rfl, SqT.of e7⟩, rv.1, rv.2.1, rv.2.2.1, rv.2.2.2, _, rfl, _, _, rfl, dpv _ (s36.trans s7), rv.1, rv.2.1, rv.2.2.1, rv.2.2.2, rfl, _, rfl, ?_⟩
    rw [decide_eq_true rfl]
    refine iteF ?_
    refine ⟨_, rfl, vtL x, x, rfl, by omega, rb, fun H8 q8 s8 e8 => ?_⟩
    refine ⟨_, _, rfl, IV.dp ⟨q8, rfl, SqT.of e8⟩, rv.1, rv.2.1, rv.2.2.1, rv.2.2.2, _, rfl, _, _, rfl, dpv _ ((s36.trans s7).trans s8), rv.1, rv.2.1, rv.2.2.1, rv.2.2.2, rfl, _, rfl, ?_⟩
    rw [decide_eq_true rfl]
    refine iteF ?_
    have D8 : Deck d l H8 := D3.mono ((s36.trans s7).trans s8)
    have szv : (Tx (vtL x)).length ≤ sizeLine := by rw [tx_len]; exact Nat.le_of_lt (small1000 (by omega))
    refine ⟨_, rfl, _, rfl, _, rfl, szv, _, _, rfl, rfl, d, l, _, rfl, D8, by rw [tx_len]; omega, by rw [tx_len]; omega, fun H9 r k9 D9 r0 r1 => ?_⟩
    rw [tx_len] at r1
    have k39 : Kp d l H2 H9 := k3.trans ((Kp.same ((s36.trans s7).trans s8)).trans k9)
    clear rs rv rb dpv e7 e8
    generalize hL : vtL x = L at *
    have szL : ∀ u : List Nat, u.length ≤ 100 → (Tx u).length ≤ sizeLine := fun u h => by rw [tx_len]; exact Nat.le_of_lt (small1000 (by omega))
    have szA : ∀ u v : List Nat, u.length + v.length ≤ 100 → (Tx u).length + (Tx v).length ≤ sizeLine := fun u v h => by rw [tx_len, tx_len]; exact Nat.le_of_lt (small1000 (by omega))
    have e1 : Str.ofString " " = Tx [32] := by decide +kernel
    have e2' : Str.ofString "-rc.1" = Tx [45, 114, 99, 46, 49] := by decide +kernel
    have e3' : Str.ofString ".0" = Tx [46, 48] := by decide +kernel
    rw [s_dot, s_dash, e1, e2', e3', s_zero]
    refine ⟨_, rfl, _, rfl, _, rfl, _, rfl, szL _ (by omega), _, rfl, _, rfl, _, rfl, _, rfl, szL _ (by omega), _, rfl, _, _, rfl, rfl, szA _ _ (by simp; omega), _, rfl, _, _, rfl, rfl, szA _ _ (by simp; omega), _, rfl, _, _, rfl, rfl, szA _ _ (by simp; omega), _, rfl, _, _, rfl, rfl, szA _ _ (by simp; omega), _, rfl, _, _, rfl, rfl, szA _ _ (by simp; omega), _, rfl, _, _, rfl, rfl, szA _ _ (by simp; omega), _, rfl, _, rfl, _, rfl, szL _ (by omega), by show 9 ≤ sizeLine; decide, fun qL hqL => ?_⟩
    refine ⟨qL, rfl, ⟨texts9 L r, SqL.of upd_same⟩, for_list (K := K) (a := qL) (xs := texts9 L r) (fun m σ H' => ∃ v8, σ = [some (.ref a), some (.ref d), some (.ref p), some (.int (i : Nat)), some (.ref ta), some (.str (Tx L)), some (.str (Tx L)), some (.int r), v8] ∧ Same H9 H' ∧ H' qL = some (.lst (texts9 L r))) ⟨_, rfl, Same.new hqL, upd_same⟩ (fun m σ H' _ ⟨_, _, _, e⟩ => SqL.of e) ?_ ?_⟩
    · rintro m y σ H' hy ⟨v8, rfl, s, eq⟩
      obtain ⟨u, rfl, hu, cu⟩ := texts9_ok cl ln y (List.mem_of_getElem? hy)
      cases hr : readE u with
      | ok v =>
        have rv := rp_read hu hr
        refine ⟨_, rfl, u, rfl, by omega, fun v1 h1 Ha qa sa ea => ?_, fun j h1 => by rw [hr] at h1; cases h1⟩
        rw [hr] at h1
        injection h1 with h1
        subst h1
        refine ⟨_, _, rfl, IV.dp ⟨qa, rfl, SqT.of ea⟩, rv.1, rv.2.1, rv.2.2.1, rv.2.2.2, _, rfl, u, rfl, by omega, fun v2 h2 Hb qb sb eb => ?_, fun j h2 => by rw [hr] at h2; cases h2⟩
        rw [hr] at h2
        injection h2 with h2
        subst h2
        refine ⟨_, _, rfl, IV.dp ⟨qb, rfl, SqT.of eb⟩, rv.1, rv.2.1, rv.2.2.1, rv.2.2.2, rfl, _, rfl, ?_⟩
        rw [decide_eq_true rfl]
        exact iteF ⟨_, rfl, (s.trans sa).trans sb, sb _ _ (sa _ _ eq)⟩
      | error j =>
        obtain ⟨lb, el, cb, lnb⟩ := bad_tx (j := j)
        have hj := read_le hr
        have nj := num_len (i := (j : Int)) (by omega) (by omega)
        rw [Int.toNat_natCast] at nj
        have rb := rp_str (l := lb) (by omega) cb
        refine ⟨_, rfl, u, rfl, by omega, (fun v1 h1 => by rw [hr] at h1; cases h1), fun j1 h1 Ha sa => ?_⟩
        rw [hr] at h1
        injection h1 with h1
        subst h1
        rw [el]
        refine ⟨_, _, rfl, .str _, rb.1, rb.2.1, rb.2.2.1, rb.2.2.2, _, rfl, u, rfl, by omega, (fun v2 h2 => by rw [hr] at h2; cases h2), fun j2 h2 Hb sb => ?_⟩
        rw [hr] at h2
        injection h2 with h2
        subst h2
        rw [el]
        refine ⟨_, _, rfl, .str _, rb.1, rb.2.1, rb.2.2.1, rb.2.2.2, rfl, _, rfl, ?_⟩
        rw [decide_eq_true rfl]
        exact iteF ⟨_, rfl, (s.trans sa).trans sb, sb _ _ (sa _ _ eq)⟩
    · rintro σ H' ⟨v8, rfl, s, eq⟩
      exact ⟨_, _, _, _, _, _, rfl, k39.trans (Kp.same s), D9.mono s⟩
  · rintro σ H3 ⟨v3, v4, v5, v6, v7, v8, rfl, k3, D3⟩
    exact k H3
end


end Zj
namespace Zj
open PySem L2
/-- an error of the class at S is what its own name catches -/
theorem exm_own {K : PySem.W.Frag} {S : Addr} (h1 : PySem.W.subIn K (.ref S) (.type "BaseException") = some true) (h2 : PySem.W.isClsIn K S = true) (h3 : PySem.W.typeIn K (.ref S) = some (.type "type")) (h4 : PySem.W.subIn K (.ref S) (.ref S) = some true) : PySem.W.exmOne K (.ref S) (.ref S) = some true := by
  have h2' : (PySem.W.clsIn K S).isSome = true := h2
  unfold PySem.W.exmOne PySem.W.kitCls
  simp [h1, h2', h3, h4]
theorem all_mk {l : PySem.W.OpenLaw} {w : World} {K : PySem.W.Frag} {h : Heap} {mg : Str → Option Value} {fa : Addr} (X : K.In h) (G : h.Ns mainGlobals mg) (hfa : mg "law" = some (.ref fa))
    {CR CB fB aS : Addr}
    (aReader : PySem.W.nsIn K mainGlobals "Reader" = some (some (.ref CR))) (r1 : PySem.W.plainGet K CR Str.empty = true) (r2 : PySem.W.hasDictIn K CR = true) (r3 : PySem.W.plainOver K CR = true) (r4 : PySem.W.findIn K (.ref CR) "__setattr__" = some (some (.builtin "object.__setattr__"))) (r5 : PySem.W.findIn K (.ref CR) "line" = some none) (r6 : PySem.W.findIn K (.ref CR) "at" = some none) (r7 : PySem.W.makesIn K CR = true) (r8 : PySem.W.keepIn K (.ref CR) = true)
    {nm q : Str} {N : Addr} {bs bm : List Value} {sn : List Str} {sub : List Value} {ab : Bool} {col : Option Bool} {dd : Option Addr} {m0 m1 m2 m3 m5 : Option Value} {odB anB : Option Addr} {slB : Array (Option Value)} {ocB dcB pmB cdB ctB : Value} {p1 p2 q1 q2 q3 q4 : Pos}
    (aBad : PySem.W.nsIn K mainGlobals "BadText" = some (some (.ref CB))) (b1 : K.lookup CB = some (excClassObj nm q CB N bs bm true sn sub ab col dd m0 m1 m2 m3 m5 "Exception.__new__")) (b2 : Er.upEx bm = true) (b3 : PySem.W.findIn K (.ref CB) "__setattr__" = some (some (.builtin "object.__setattr__"))) (b4 : PySem.W.findIn K (.ref CB) "__getattribute__" = some (some (.builtin "BaseException.__getattribute__"))) (b5 : PySem.W.findIn K (.ref CB) "__getattr__" = some none) (b6 : PySem.W.subIn K (.ref CB) (.type "BaseException") = some true) (b7 : PySem.W.hasDictIn K CB = true) (b8 : PySem.W.findIn K (.ref CB) "at" = some none) (b9 : PySem.W.findIn K (.ref CB) "__init__" = some (some (.ref fB))) (b10 : PySem.W.typeIn K (.ref fB) = some (.type "function")) (b11 : PySem.W.keepIn K (.ref CB) = true) (b12 : PySem.W.typeIn K (.ref CB) = some (.type "type")) (b13 : PySem.W.isClsIn K CB = true) (b16 : PySem.W.subIn K (.ref CB) (.ref CB) = some true)
    (b14 : K.lookup fB = some ⟨ocB, odB, .func (PySem.W.fnOf "__init__" "BadText.__init__" (Er.argsat p1 p2) (Er.bodyat q1 q2 q3 q4) Er.scopeat .none .none dcB pmB anB cdB ctB), slB⟩) (b15 : PySem.W.codeIn K cdB "BadText.__init__" = true)
    {odS : Option Addr} {ocS : Value} {slS : Array (Option Value)} {epS : Nat} {u0 u1 u2 : Tok} (zS : PySem.W.nsIn K mainGlobals "SORTS" = some (some (.ref aS))) (yS : K.lookup aS = some ⟨ocS, odS, .seq #[.str "alpha" u0, .str "beta" u1, .str "rc" u2] epS, slS⟩) (oS : ocS = .type "tuple") {tD : Tok} (zD : PySem.W.nsIn K mainGlobals "DIGITS" = some (some (.str "0123456789" tD)))
    {fLDeck : Addr} {odLDeck anLDeck : Option Addr} {slLDeck : Array (Option Value)} {ocLDeck kVLDeck dcLDeck pmLDeck cdLDeck ctLDeck : Value}
    (aLDeck : PySem.W.nsIn K mainGlobals "_law_deck" = some (some (.ref fLDeck))) (lLDeck : K.lookup fLDeck = some ⟨ocLDeck, odLDeck, .func (PySem.W.fnOf "_law_deck" "_law_deck" (defArgs sLDeck) (defBody sLDeck) (defScope sLDeck) .none kVLDeck dcLDeck pmLDeck anLDeck cdLDeck ctLDeck), slLDeck⟩) (cLDeck : PySem.W.codeIn K cdLDeck "_law_deck" = true) (kLDeck : PySem.W.keepIn K (.ref fLDeck) = true)
    {fLDraw : Addr} {odLDraw anLDraw : Option Addr} {slLDraw : Array (Option Value)} {ocLDraw kVLDraw dcLDraw pmLDraw cdLDraw ctLDraw : Value}
    (aLDraw : PySem.W.nsIn K mainGlobals "_law_draw" = some (some (.ref fLDraw))) (lLDraw : K.lookup fLDraw = some ⟨ocLDraw, odLDraw, .func (PySem.W.fnOf "_law_draw" "_law_draw" (defArgs sLDraw) (defBody sLDraw) (defScope sLDraw) .none kVLDraw dcLDraw pmLDraw anLDraw cdLDraw ctLDraw), slLDraw⟩) (cLDraw : PySem.W.codeIn K cdLDraw "_law_draw" = true) (kLDraw : PySem.W.keepIn K (.ref fLDraw) = true)
    {fLFigures : Addr} {odLFigures anLFigures : Option Addr} {slLFigures : Array (Option Value)} {ocLFigures kVLFigures dcLFigures pmLFigures cdLFigures ctLFigures : Value}
    (aLFigures : PySem.W.nsIn K mainGlobals "_law_figures" = some (some (.ref fLFigures))) (lLFigures : K.lookup fLFigures = some ⟨ocLFigures, odLFigures, .func (PySem.W.fnOf "_law_figures" "_law_figures" (defArgs sLFigures) (defBody sLFigures) (defScope sLFigures) .none kVLFigures dcLFigures pmLFigures anLFigures cdLFigures ctLFigures), slLFigures⟩) (cLFigures : PySem.W.codeIn K cdLFigures "_law_figures" = true) (kLFigures : PySem.W.keepIn K (.ref fLFigures) = true)
    {fLSort : Addr} {odLSort anLSort : Option Addr} {slLSort : Array (Option Value)} {ocLSort kVLSort dcLSort pmLSort cdLSort ctLSort : Value}
    (aLSort : PySem.W.nsIn K mainGlobals "_law_sort" = some (some (.ref fLSort))) (lLSort : K.lookup fLSort = some ⟨ocLSort, odLSort, .func (PySem.W.fnOf "_law_sort" "_law_sort" (defArgs sLSort) (defBody sLSort) (defScope sLSort) .none kVLSort dcLSort pmLSort anLSort cdLSort ctLSort), slLSort⟩) (cLSort : PySem.W.codeIn K cdLSort "_law_sort" = true) (kLSort : PySem.W.keepIn K (.ref fLSort) = true)
    {fLWalked : Addr} {odLWalked anLWalked : Option Addr} {slLWalked : Array (Option Value)} {ocLWalked kVLWalked dcLWalked pmLWalked cdLWalked ctLWalked : Value}
    (aLWalked : PySem.W.nsIn K mainGlobals "_law_walked" = some (some (.ref fLWalked))) (lLWalked : K.lookup fLWalked = some ⟨ocLWalked, odLWalked, .func (PySem.W.fnOf "_law_walked" "_law_walked" (defArgs sLWalked) (defBody sLWalked) (defScope sLWalked) .none kVLWalked dcLWalked pmLWalked anLWalked cdLWalked ctLWalked), slLWalked⟩) (cLWalked : PySem.W.codeIn K cdLWalked "_law_walked" = true) (kLWalked : PySem.W.keepIn K (.ref fLWalked) = true)
    {fLDue : Addr} {odLDue anLDue : Option Addr} {slLDue : Array (Option Value)} {ocLDue kVLDue dcLDue pmLDue cdLDue ctLDue : Value}
    (aLDue : PySem.W.nsIn K mainGlobals "_law_due" = some (some (.ref fLDue))) (lLDue : K.lookup fLDue = some ⟨ocLDue, odLDue, .func (PySem.W.fnOf "_law_due" "_law_due" (defArgs sLDue) (defBody sLDue) (defScope sLDue) .none kVLDue dcLDue pmLDue anLDue cdLDue ctLDue), slLDue⟩) (cLDue : PySem.W.codeIn K cdLDue "_law_due" = true) (kLDue : PySem.W.keepIn K (.ref fLDue) = true)
    {fLText : Addr} {odLText anLText : Option Addr} {slLText : Array (Option Value)} {ocLText kVLText dcLText pmLText cdLText ctLText : Value}
    (aLText : PySem.W.nsIn K mainGlobals "_law_text" = some (some (.ref fLText))) (lLText : K.lookup fLText = some ⟨ocLText, odLText, .func (PySem.W.fnOf "_law_text" "_law_text" (defArgs sLText) (defBody sLText) (defScope sLText) .none kVLText dcLText pmLText anLText cdLText ctLText), slLText⟩) (cLText : PySem.W.codeIn K cdLText "_law_text" = true) (kLText : PySem.W.keepIn K (.ref fLText) = true)
    {fReaderInit : Addr} {odReaderInit anReaderInit : Option Addr} {slReaderInit : Array (Option Value)} {ocReaderInit kVReaderInit dcReaderInit pmReaderInit cdReaderInit ctReaderInit : Value}
    (aReaderInit : PySem.W.findIn K (.ref CR) "__init__" = some (some (.ref fReaderInit))) (nReaderInit : PySem.W.isFn K (.ref fReaderInit) = true) (lReaderInit : K.lookup fReaderInit = some ⟨ocReaderInit, odReaderInit, .func (PySem.W.fnOf "__init__" "Reader.__init__" (defArgs sReaderInit) (defBody sReaderInit) (defScope sReaderInit) .none kVReaderInit dcReaderInit pmReaderInit anReaderInit cdReaderInit ctReaderInit), slReaderInit⟩) (cReaderInit : PySem.W.codeIn K cdReaderInit "Reader.__init__" = true) (kReaderInit : PySem.W.keepIn K (.ref fReaderInit) = true)
    {fReaderFinish : Addr} {odReaderFinish anReaderFinish : Option Addr} {slReaderFinish : Array (Option Value)} {ocReaderFinish kVReaderFinish dcReaderFinish pmReaderFinish cdReaderFinish ctReaderFinish : Value}
    (aReaderFinish : PySem.W.findIn K (.ref CR) "finish" = some (some (.ref fReaderFinish))) (nReaderFinish : PySem.W.isFn K (.ref fReaderFinish) = true) (lReaderFinish : K.lookup fReaderFinish = some ⟨ocReaderFinish, odReaderFinish, .func (PySem.W.fnOf "finish" "Reader.finish" (defArgs sReaderFinish) (defBody sReaderFinish) (defScope sReaderFinish) .none kVReaderFinish dcReaderFinish pmReaderFinish anReaderFinish cdReaderFinish ctReaderFinish), slReaderFinish⟩) (cReaderFinish : PySem.W.codeIn K cdReaderFinish "Reader.finish" = true) (kReaderFinish : PySem.W.keepIn K (.ref fReaderFinish) = true)
    {fReaderComes : Addr} {odReaderComes anReaderComes : Option Addr} {slReaderComes : Array (Option Value)} {ocReaderComes kVReaderComes dcReaderComes pmReaderComes cdReaderComes ctReaderComes : Value}
    (aReaderComes : PySem.W.findIn K (.ref CR) "comes" = some (some (.ref fReaderComes))) (nReaderComes : PySem.W.isFn K (.ref fReaderComes) = true) (lReaderComes : K.lookup fReaderComes = some ⟨ocReaderComes, odReaderComes, .func (PySem.W.fnOf "comes" "Reader.comes" (defArgs sReaderComes) (defBody sReaderComes) (defScope sReaderComes) .none kVReaderComes dcReaderComes pmReaderComes anReaderComes cdReaderComes ctReaderComes), slReaderComes⟩) (cReaderComes : PySem.W.codeIn K cdReaderComes "Reader.comes" = true) (kReaderComes : PySem.W.keepIn K (.ref fReaderComes) = true)
    {fReaderTake : Addr} {odReaderTake anReaderTake : Option Addr} {slReaderTake : Array (Option Value)} {ocReaderTake kVReaderTake dcReaderTake pmReaderTake cdReaderTake ctReaderTake : Value}
    (aReaderTake : PySem.W.findIn K (.ref CR) "take" = some (some (.ref fReaderTake))) (nReaderTake : PySem.W.isFn K (.ref fReaderTake) = true) (lReaderTake : K.lookup fReaderTake = some ⟨ocReaderTake, odReaderTake, .func (PySem.W.fnOf "take" "Reader.take" (defArgs sReaderTake) (defBody sReaderTake) (defScope sReaderTake) .none kVReaderTake dcReaderTake pmReaderTake anReaderTake cdReaderTake ctReaderTake), slReaderTake⟩) (cReaderTake : PySem.W.codeIn K cdReaderTake "Reader.take" = true) (kReaderTake : PySem.W.keepIn K (.ref fReaderTake) = true)
    {fReaderExpect : Addr} {odReaderExpect anReaderExpect : Option Addr} {slReaderExpect : Array (Option Value)} {ocReaderExpect kVReaderExpect dcReaderExpect pmReaderExpect cdReaderExpect ctReaderExpect : Value}
    (aReaderExpect : PySem.W.findIn K (.ref CR) "expect" = some (some (.ref fReaderExpect))) (nReaderExpect : PySem.W.isFn K (.ref fReaderExpect) = true) (lReaderExpect : K.lookup fReaderExpect = some ⟨ocReaderExpect, odReaderExpect, .func (PySem.W.fnOf "expect" "Reader.expect" (defArgs sReaderExpect) (defBody sReaderExpect) (defScope sReaderExpect) .none kVReaderExpect dcReaderExpect pmReaderExpect anReaderExpect cdReaderExpect ctReaderExpect), slReaderExpect⟩) (cReaderExpect : PySem.W.codeIn K cdReaderExpect "Reader.expect" = true) (kReaderExpect : PySem.W.keepIn K (.ref fReaderExpect) = true)
    {fReaderNumber : Addr} {odReaderNumber anReaderNumber : Option Addr} {slReaderNumber : Array (Option Value)} {ocReaderNumber kVReaderNumber dcReaderNumber pmReaderNumber cdReaderNumber ctReaderNumber : Value}
    (aReaderNumber : PySem.W.findIn K (.ref CR) "number" = some (some (.ref fReaderNumber))) (nReaderNumber : PySem.W.isFn K (.ref fReaderNumber) = true) (lReaderNumber : K.lookup fReaderNumber = some ⟨ocReaderNumber, odReaderNumber, .func (PySem.W.fnOf "number" "Reader.number" (defArgs sReaderNumber) (defBody sReaderNumber) (defScope sReaderNumber) .none kVReaderNumber dcReaderNumber pmReaderNumber anReaderNumber cdReaderNumber ctReaderNumber), slReaderNumber⟩) (cReaderNumber : PySem.W.codeIn K cdReaderNumber "Reader.number" = true) (kReaderNumber : PySem.W.keepIn K (.ref fReaderNumber) = true)
    {fSortFrom : Addr} {odSortFrom anSortFrom : Option Addr} {slSortFrom : Array (Option Value)} {ocSortFrom kVSortFrom dcSortFrom pmSortFrom cdSortFrom ctSortFrom : Value}
    (aSortFrom : PySem.W.nsIn K mainGlobals "sort_from" = some (some (.ref fSortFrom))) (lSortFrom : K.lookup fSortFrom = some ⟨ocSortFrom, odSortFrom, .func (PySem.W.fnOf "sort_from" "sort_from" (defArgs sSortFrom) (defBody sSortFrom) (defScope sSortFrom) .none kVSortFrom dcSortFrom pmSortFrom anSortFrom cdSortFrom ctSortFrom), slSortFrom⟩) (cSortFrom : PySem.W.codeIn K cdSortFrom "sort_from" = true) (kSortFrom : PySem.W.keepIn K (.ref fSortFrom) = true)
    {fVersionFrom : Addr} {odVersionFrom anVersionFrom : Option Addr} {slVersionFrom : Array (Option Value)} {ocVersionFrom kVVersionFrom dcVersionFrom pmVersionFrom cdVersionFrom ctVersionFrom : Value}
    (aVersionFrom : PySem.W.nsIn K mainGlobals "version_from" = some (some (.ref fVersionFrom))) (lVersionFrom : K.lookup fVersionFrom = some ⟨ocVersionFrom, odVersionFrom, .func (PySem.W.fnOf "version_from" "version_from" (defArgs sVersionFrom) (defBody sVersionFrom) (defScope sVersionFrom) .none kVVersionFrom dcVersionFrom pmVersionFrom anVersionFrom cdVersionFrom ctVersionFrom), slVersionFrom⟩) (cVersionFrom : PySem.W.codeIn K cdVersionFrom "version_from" = true) (kVersionFrom : PySem.W.keepIn K (.ref fVersionFrom) = true)
    {fReadWhole : Addr} {odReadWhole anReadWhole : Option Addr} {slReadWhole : Array (Option Value)} {ocReadWhole kVReadWhole dcReadWhole pmReadWhole cdReadWhole ctReadWhole : Value}
    (aReadWhole : PySem.W.nsIn K mainGlobals "read_whole" = some (some (.ref fReadWhole))) (lReadWhole : K.lookup fReadWhole = some ⟨ocReadWhole, odReadWhole, .func (PySem.W.fnOf "read_whole" "read_whole" (defArgs sReadWhole) (defBody sReadWhole) (defScope sReadWhole) .none kVReadWhole dcReadWhole pmReadWhole anReadWhole cdReadWhole ctReadWhole), slReadWhole⟩) (cReadWhole : PySem.W.codeIn K cdReadWhole "read_whole" = true) (kReadWhole : PySem.W.keepIn K (.ref fReadWhole) = true)
    {fReadVersion : Addr} {odReadVersion anReadVersion : Option Addr} {slReadVersion : Array (Option Value)} {ocReadVersion kVReadVersion dcReadVersion pmReadVersion cdReadVersion ctReadVersion : Value}
    (aReadVersion : PySem.W.nsIn K mainGlobals "read_version" = some (some (.ref fReadVersion))) (lReadVersion : K.lookup fReadVersion = some ⟨ocReadVersion, odReadVersion, .func (PySem.W.fnOf "read_version" "read_version" (defArgs sReadVersion) (defBody sReadVersion) (defScope sReadVersion) .none kVReadVersion dcReadVersion pmReadVersion anReadVersion cdReadVersion ctReadVersion), slReadVersion⟩) (cReadVersion : PySem.W.codeIn K cdReadVersion "read_version" = true) (kReadVersion : PySem.W.keepIn K (.ref fReadVersion) = true)
    {fLTold : Addr} {odLTold anLTold : Option Addr} {slLTold : Array (Option Value)} {ocLTold kVLTold dcLTold pmLTold cdLTold ctLTold : Value}
    (aLTold : PySem.W.nsIn K mainGlobals "_law_told" = some (some (.ref fLTold))) (lLTold : K.lookup fLTold = some ⟨ocLTold, odLTold, .func (PySem.W.fnOf "_law_told" "_law_told" (defArgs sLTold) (defBody sLTold) (defScope sLTold) .none kVLTold dcLTold pmLTold anLTold cdLTold ctLTold), slLTold⟩) (cLTold : PySem.W.codeIn K cdLTold "_law_told" = true) (kLTold : PySem.W.keepIn K (.ref fLTold) = true)
    {fLNext : Addr} {odLNext anLNext : Option Addr} {slLNext : Array (Option Value)} {ocLNext kVLNext dcLNext pmLNext cdLNext ctLNext : Value}
    (aLNext : PySem.W.nsIn K mainGlobals "_law_next" = some (some (.ref fLNext))) (lLNext : K.lookup fLNext = some ⟨ocLNext, odLNext, .func (PySem.W.fnOf "_law_next" "_law_next" (defArgs sLNext) (defBody sLNext) (defScope sLNext) .none kVLNext dcLNext pmLNext anLNext cdLNext ctLNext), slLNext⟩) (cLNext : PySem.W.codeIn K cdLNext "_law_next" = true) (kLNext : PySem.W.keepIn K (.ref fLNext) = true)
    {fLPick : Addr} {odLPick anLPick : Option Addr} {slLPick : Array (Option Value)} {ocLPick kVLPick dcLPick pmLPick cdLPick ctLPick : Value}
    (aLPick : PySem.W.nsIn K mainGlobals "_law_pick" = some (some (.ref fLPick))) (lLPick : K.lookup fLPick = some ⟨ocLPick, odLPick, .func (PySem.W.fnOf "_law_pick" "_law_pick" (defArgs sLPick) (defBody sLPick) (defScope sLPick) .none kVLPick dcLPick pmLPick anLPick cdLPick ctLPick), slLPick⟩) (cLPick : PySem.W.codeIn K cdLPick "_law_pick" = true) (kLPick : PySem.W.keepIn K (.ref fLPick) = true)
    {fLNumber : Addr} {odLNumber anLNumber : Option Addr} {slLNumber : Array (Option Value)} {ocLNumber kVLNumber dcLNumber pmLNumber cdLNumber ctLNumber : Value}
    (aLNumber : PySem.W.nsIn K mainGlobals "_law_number" = some (some (.ref fLNumber))) (lLNumber : K.lookup fLNumber = some ⟨ocLNumber, odLNumber, .func (PySem.W.fnOf "_law_number" "_law_number" (defArgs sLNumber) (defBody sLNumber) (defScope sLNumber) .none kVLNumber dcLNumber pmLNumber anLNumber cdLNumber ctLNumber), slLNumber⟩) (cLNumber : PySem.W.codeIn K cdLNumber "_law_number" = true) (kLNumber : PySem.W.keepIn K (.ref fLNumber) = true)
    {fLVersion : Addr} {odLVersion anLVersion : Option Addr} {slLVersion : Array (Option Value)} {ocLVersion kVLVersion dcLVersion pmLVersion cdLVersion ctLVersion : Value}
    (aLVersion : PySem.W.nsIn K mainGlobals "_law_version" = some (some (.ref fLVersion))) (lLVersion : K.lookup fLVersion = some ⟨ocLVersion, odLVersion, .func (PySem.W.fnOf "_law_version" "_law_version" (defArgs sLVersion) (defBody sLVersion) (defScope sLVersion) .none kVLVersion dcLVersion pmLVersion anLVersion cdLVersion ctLVersion), slLVersion⟩) (cLVersion : PySem.W.codeIn K cdLVersion "_law_version" = true) (kLVersion : PySem.W.keepIn K (.ref fLVersion) = true)
    {fLVersions : Addr} {odLVersions anLVersions : Option Addr} {slLVersions : Array (Option Value)} {ocLVersions kVLVersions dcLVersions pmLVersions cdLVersions ctLVersions : Value}
    (aLVersions : PySem.W.nsIn K mainGlobals "_law_versions" = some (some (.ref fLVersions))) (lLVersions : K.lookup fLVersions = some ⟨ocLVersions, odLVersions, .func (PySem.W.fnOf "_law_versions" "_law_versions" (defArgs sLVersions) (defBody sLVersions) (defScope sLVersions) .none kVLVersions dcLVersions pmLVersions anLVersions cdLVersions ctLVersions), slLVersions⟩) (cLVersions : PySem.W.codeIn K cdLVersions "_law_versions" = true) (kLVersions : PySem.W.keepIn K (.ref fLVersions) = true)
    {fIsInteger : Addr} {odIsInteger anIsInteger : Option Addr} {slIsInteger : Array (Option Value)} {ocIsInteger kVIsInteger dcIsInteger pmIsInteger cdIsInteger ctIsInteger : Value}
    (aIsInteger : PySem.W.nsIn K mainGlobals "is_integer" = some (some (.ref fIsInteger))) (lIsInteger : K.lookup fIsInteger = some ⟨ocIsInteger, odIsInteger, .func (PySem.W.fnOf "is_integer" "is_integer" (defArgs sIsInteger) (defBody sIsInteger) (defScope sIsInteger) .none kVIsInteger dcIsInteger pmIsInteger anIsInteger cdIsInteger ctIsInteger), slIsInteger⟩) (cIsInteger : PySem.W.codeIn K cdIsInteger "is_integer" = true) (kIsInteger : PySem.W.keepIn K (.ref fIsInteger) = true)
    {fIsVersion : Addr} {odIsVersion anIsVersion : Option Addr} {slIsVersion : Array (Option Value)} {ocIsVersion kVIsVersion dcIsVersion pmIsVersion cdIsVersion ctIsVersion : Value}
    (aIsVersion : PySem.W.nsIn K mainGlobals "is_version" = some (some (.ref fIsVersion))) (lIsVersion : K.lookup fIsVersion = some ⟨ocIsVersion, odIsVersion, .func (PySem.W.fnOf "is_version" "is_version" (defArgs sIsVersion) (defBody sIsVersion) (defScope sIsVersion) .none kVIsVersion dcIsVersion pmIsVersion anIsVersion cdIsVersion ctIsVersion), slIsVersion⟩) (cIsVersion : PySem.W.codeIn K cdIsVersion "is_version" = true) (kIsVersion : PySem.W.keepIn K (.ref fIsVersion) = true)
    {fCheckVersion : Addr} {odCheckVersion anCheckVersion : Option Addr} {slCheckVersion : Array (Option Value)} {ocCheckVersion kVCheckVersion dcCheckVersion pmCheckVersion cdCheckVersion ctCheckVersion : Value}
    (aCheckVersion : PySem.W.nsIn K mainGlobals "check_version" = some (some (.ref fCheckVersion))) (lCheckVersion : K.lookup fCheckVersion = some ⟨ocCheckVersion, odCheckVersion, .func (PySem.W.fnOf "check_version" "check_version" (defArgs sCheckVersion) (defBody sCheckVersion) (defScope sCheckVersion) .none kVCheckVersion dcCheckVersion pmCheckVersion anCheckVersion cdCheckVersion ctCheckVersion), slCheckVersion⟩) (cCheckVersion : PySem.W.codeIn K cdCheckVersion "check_version" = true) (kCheckVersion : PySem.W.keepIn K (.ref fCheckVersion) = true)
    {fVersionText : Addr} {odVersionText anVersionText : Option Addr} {slVersionText : Array (Option Value)} {ocVersionText kVVersionText dcVersionText pmVersionText cdVersionText ctVersionText : Value}
    (aVersionText : PySem.W.nsIn K mainGlobals "version_text" = some (some (.ref fVersionText))) (lVersionText : K.lookup fVersionText = some ⟨ocVersionText, odVersionText, .func (PySem.W.fnOf "version_text" "version_text" (defArgs sVersionText) (defBody sVersionText) (defScope sVersionText) .none kVVersionText dcVersionText pmVersionText anVersionText cdVersionText ctVersionText), slVersionText⟩) (cVersionText : PySem.W.codeIn K cdVersionText "version_text" = true) (kVersionText : PySem.W.keepIn K (.ref fVersionText) = true)
    {fLaw : Addr} {odLaw anLaw : Option Addr} {slLaw : Array (Option Value)} {ocLaw kVLaw dcLaw pmLaw cdLaw ctLaw : Value}
    (aLaw : PySem.W.nsIn K mainGlobals "law" = some (some (.ref fLaw))) (lLaw : K.lookup fLaw = some ⟨ocLaw, odLaw, .func (PySem.W.fnOf "law" "law" (defArgs sLaw) (defBody sLaw) (defScope sLaw) .none kVLaw dcLaw pmLaw anLaw cdLaw ctLaw), slLaw⟩) (cLaw : PySem.W.codeIn K cdLaw "law" = true) (kLaw : PySem.W.keepIn K (.ref fLaw) = true)
    (zisinstance : PySem.W.nsIn K mainGlobals "isinstance" = some none)
    (ztuple : PySem.W.nsIn K mainGlobals "tuple" = some none)
    (zbool : PySem.W.nsIn K mainGlobals "bool" = some none)
    (zall : PySem.W.nsIn K mainGlobals "all" = some none)
    (zlist : PySem.W.nsIn K mainGlobals "list" = some none)
    (zrepr : PySem.W.nsIn K mainGlobals "repr" = some none)
    (zenumerate : PySem.W.nsIn K mainGlobals "enumerate" = some none)
    (zint : PySem.W.nsIn K mainGlobals "int" = some none)
    (zmax : PySem.W.nsIn K mainGlobals "max" = some none)
    (zlen : PySem.W.nsIn K mainGlobals "len" = some none)
    (zrange : PySem.W.nsIn K mainGlobals "range" = some none)
    (zstr : PySem.W.nsIn K mainGlobals "str" = some none)
    {tWHOLE : Tok} (zWHOLE : PySem.W.nsIn K mainGlobals "WHOLE" = some (some (.int 3 tWHOLE))) :
    ∃ fd : FuncData, (∀ (s : Shared) (v : Value), BindsTo s fd ⟨[v], []⟩ [("_law_script", v)]) ∧ ∀ base : Heap, K.In base → base.Ns mainGlobals mg → FnG l.prog w K mg base 9 fa fd ["_law_script"] (spLaw K) := by
  have e := hfa.symm.trans (PySem.W.mg_of X G aLaw)
  cases e
  have Z : Blt K mg := { isinstance := PySem.W.mg_none_of X G zisinstance, tuple := PySem.W.mg_none_of X G ztuple, bool := PySem.W.mg_none_of X G zbool, all := PySem.W.mg_none_of X G zall, list := PySem.W.mg_none_of X G zlist, repr := PySem.W.mg_none_of X G zrepr, enumerate := PySem.W.mg_none_of X G zenumerate, int := PySem.W.mg_none_of X G zint, max := PySem.W.mg_none_of X G zmax, len := PySem.W.mg_none_of X G zlen, range := PySem.W.mg_none_of X G zrange, str := PySem.W.mg_none_of X G zstr, g_WHOLE := ⟨_, PySem.W.mg_of X G zWHOLE⟩, g_DIGITS := ⟨_, PySem.W.mg_of X G zD⟩ }
  have RT : RdC K mg CR CB "BadText.__init__" fB := ⟨⟨PySem.W.mg_of X G aBad, ⟨_, _, _, _, _, _, _, _, _, _, _, _, _, _, _, b1, b2⟩, b3, ⟨b4, b5, b6, b7⟩, b8, b9, b10, b11, b12, exm_own b6 b13 b12 b16, ⟨_, _, _, _, _, _, _, _, _, _, _, _, _, _, b14, b15⟩⟩, PySem.W.mg_of X G aReader, ⟨r1, r2, r3, r4⟩, r5, r6⟩
  have SO : SoC K mg aS := ⟨PySem.W.mg_of X G zS, fun H => .inr ⟨_, _, _, yS, oS, rfl, (by show 3 ≤ sizeLine; decide), .cons ⟨u0, by rw [show Tx [97, 108, 112, 104, 97] = Str.ofString "alpha" by decide +kernel]⟩ (.cons ⟨u1, by rw [show Tx [98, 101, 116, 97] = Str.ofString "beta" by decide +kernel]⟩ (.cons ⟨u2, by rw [show Tx [114, 99] = Str.ofString "rc" by decide +kernel]⟩ .nil))⟩⟩
  have FLDeck := fun_mk (st := sLDeck) lLDeck cLDeck kLDeck
  have DLDeck : DefAt K mg "_law_deck" sLDeck pLDeck fLDeck _ := ⟨FLDeck, PySem.W.mg_of X G aLDeck, FLDeck.binds (ps := pLDeck) fun _ _ _ _ _ _ us hl => match us, hl with | [_], _ => rfl⟩
  have FLDraw := fun_mk (st := sLDraw) lLDraw cLDraw kLDraw
  have DLDraw : DefAt K mg "_law_draw" sLDraw pLDraw fLDraw _ := ⟨FLDraw, PySem.W.mg_of X G aLDraw, FLDraw.binds (ps := pLDraw) fun _ _ _ _ _ _ us hl => match us, hl with | [_, _], _ => rfl⟩
  have FLFigures := fun_mk (st := sLFigures) lLFigures cLFigures kLFigures
  have DLFigures : DefAt K mg "_law_figures" sLFigures pLFigures fLFigures _ := ⟨FLFigures, PySem.W.mg_of X G aLFigures, FLFigures.binds (ps := pLFigures) fun _ _ _ _ _ _ us hl => match us, hl with | [_, _], _ => rfl⟩
  have FLSort := fun_mk (st := sLSort) lLSort cLSort kLSort
  have DLSort : DefAt K mg "_law_sort" sLSort pLSort fLSort _ := ⟨FLSort, PySem.W.mg_of X G aLSort, FLSort.binds (ps := pLSort) fun _ _ _ _ _ _ us hl => match us, hl with | [_, _, _], _ => rfl⟩
  have FLWalked := fun_mk (st := sLWalked) lLWalked cLWalked kLWalked
  have DLWalked : DefAt K mg "_law_walked" sLWalked pLWalked fLWalked _ := ⟨FLWalked, PySem.W.mg_of X G aLWalked, FLWalked.binds (ps := pLWalked) fun _ _ _ _ _ _ us hl => match us, hl with | [_, _], _ => rfl⟩
  have FLDue := fun_mk (st := sLDue) lLDue cLDue kLDue
  have DLDue : DefAt K mg "_law_due" sLDue pLDue fLDue _ := ⟨FLDue, PySem.W.mg_of X G aLDue, FLDue.binds (ps := pLDue) fun _ _ _ _ _ _ us hl => match us, hl with | [_], _ => rfl⟩
  have FLText := fun_mk (st := sLText) lLText cLText kLText
  have DLText : DefAt K mg "_law_text" sLText pLText fLText _ := ⟨FLText, PySem.W.mg_of X G aLText, FLText.binds (ps := pLText) fun _ _ _ _ _ _ us hl => match us, hl with | [_], _ => rfl⟩
  have FReaderInit := fun_mk (st := sReaderInit) lReaderInit cReaderInit kReaderInit
  have BReaderInit : Binds K _ pReaderInit [] := FReaderInit.binds (ps := pReaderInit) fun _ _ _ _ _ _ us hl => match us, hl with | [_, _], _ => rfl
  have MReaderInit : Mk K CR fReaderInit := ⟨r7, aReaderInit, nReaderInit, r8⟩
  have FReaderFinish := fun_mk (st := sReaderFinish) lReaderFinish cReaderFinish kReaderFinish
  have BReaderFinish : Binds K _ pReaderFinish [] := FReaderFinish.binds (ps := pReaderFinish) fun _ _ _ _ _ _ us hl => match us, hl with | [_], _ => rfl
  have MReaderFinish : Meth K CR "finish" fReaderFinish := ⟨aReaderFinish, nReaderFinish, kReaderFinish⟩
  have FReaderComes := fun_mk (st := sReaderComes) lReaderComes cReaderComes kReaderComes
  have BReaderComes : Binds K _ pReaderComes [] := FReaderComes.binds (ps := pReaderComes) fun _ _ _ _ _ _ us hl => match us, hl with | [_, _], _ => rfl
  have MReaderComes : Meth K CR "comes" fReaderComes := ⟨aReaderComes, nReaderComes, kReaderComes⟩
  have FReaderTake := fun_mk (st := sReaderTake) lReaderTake cReaderTake kReaderTake
  have BReaderTake : Binds K _ pReaderTake [] := FReaderTake.binds (ps := pReaderTake) fun _ _ _ _ _ _ us hl => match us, hl with | [_, _], _ => rfl
  have MReaderTake : Meth K CR "take" fReaderTake := ⟨aReaderTake, nReaderTake, kReaderTake⟩
  have FReaderExpect := fun_mk (st := sReaderExpect) lReaderExpect cReaderExpect kReaderExpect
  have BReaderExpect : Binds K _ pReaderExpect [] := FReaderExpect.binds (ps := pReaderExpect) fun _ _ _ _ _ _ us hl => match us, hl with | [_, _], _ => rfl
  have MReaderExpect : Meth K CR "expect" fReaderExpect := ⟨aReaderExpect, nReaderExpect, kReaderExpect⟩
  have FReaderNumber := fun_mk (st := sReaderNumber) lReaderNumber cReaderNumber kReaderNumber
  have BReaderNumber : Binds K _ pReaderNumber [] := FReaderNumber.binds (ps := pReaderNumber) fun _ _ _ _ _ _ us hl => match us, hl with | [_], _ => rfl
  have MReaderNumber : Meth K CR "number" fReaderNumber := ⟨aReaderNumber, nReaderNumber, kReaderNumber⟩
  have FSortFrom := fun_mk (st := sSortFrom) lSortFrom cSortFrom kSortFrom
  have DSortFrom : DefAt K mg "sort_from" sSortFrom pSortFrom fSortFrom _ := ⟨FSortFrom, PySem.W.mg_of X G aSortFrom, FSortFrom.binds (ps := pSortFrom) fun _ _ _ _ _ _ us hl => match us, hl with | [_], _ => rfl⟩
  have FVersionFrom := fun_mk (st := sVersionFrom) lVersionFrom cVersionFrom kVersionFrom
  have DVersionFrom : DefAt K mg "version_from" sVersionFrom pVersionFrom fVersionFrom _ := ⟨FVersionFrom, PySem.W.mg_of X G aVersionFrom, FVersionFrom.binds (ps := pVersionFrom) fun _ _ _ _ _ _ us hl => match us, hl with | [_], _ => rfl⟩
  have FReadWhole := fun_mk (st := sReadWhole) lReadWhole cReadWhole kReadWhole
  have DReadWhole : DefAt K mg "read_whole" sReadWhole pReadWhole fReadWhole _ := ⟨FReadWhole, PySem.W.mg_of X G aReadWhole, FReadWhole.binds (ps := pReadWhole) fun _ _ _ _ _ _ us hl => match us, hl with | [_, _], _ => rfl⟩
  have FReadVersion := fun_mk (st := sReadVersion) lReadVersion cReadVersion kReadVersion
  have DReadVersion : DefAt K mg "read_version" sReadVersion pReadVersion fReadVersion _ := ⟨FReadVersion, PySem.W.mg_of X G aReadVersion, FReadVersion.binds (ps := pReadVersion) fun _ _ _ _ _ _ us hl => match us, hl with | [_], _ => rfl⟩
  have FLTold := fun_mk (st := sLTold) lLTold cLTold kLTold
  have DLTold : DefAt K mg "_law_told" sLTold pLTold fLTold _ := ⟨FLTold, PySem.W.mg_of X G aLTold, FLTold.binds (ps := pLTold) fun _ _ _ _ _ _ us hl => match us, hl with | [_], _ => rfl⟩
  have FLNext := fun_mk (st := sLNext) lLNext cLNext kLNext
  have DLNext : DefAt K mg "_law_next" sLNext pLNext fLNext _ := ⟨FLNext, PySem.W.mg_of X G aLNext, FLNext.binds (ps := pLNext) fun _ _ _ _ _ _ us hl => match us, hl with | [_], _ => rfl⟩
  have FLPick := fun_mk (st := sLPick) lLPick cLPick kLPick
  have DLPick : DefAt K mg "_law_pick" sLPick pLPick fLPick _ := ⟨FLPick, PySem.W.mg_of X G aLPick, FLPick.binds (ps := pLPick) fun _ _ _ _ _ _ us hl => match us, hl with | [_, _], _ => rfl⟩
  have FLNumber := fun_mk (st := sLNumber) lLNumber cLNumber kLNumber
  have DLNumber : DefAt K mg "_law_number" sLNumber pLNumber fLNumber _ := ⟨FLNumber, PySem.W.mg_of X G aLNumber, FLNumber.binds (ps := pLNumber) fun _ _ _ _ _ _ us hl => match us, hl with | [_], _ => rfl⟩
  have FLVersion := fun_mk (st := sLVersion) lLVersion cLVersion kLVersion
  have DLVersion : DefAt K mg "_law_version" sLVersion pLVersion fLVersion _ := ⟨FLVersion, PySem.W.mg_of X G aLVersion, FLVersion.binds (ps := pLVersion) fun _ _ _ _ _ _ us hl => match us, hl with | [_, _], _ => rfl⟩
  have FLVersions := fun_mk (st := sLVersions) lLVersions cLVersions kLVersions
  have DLVersions : DefAt K mg "_law_versions" sLVersions pLVersions fLVersions _ := ⟨FLVersions, PySem.W.mg_of X G aLVersions, FLVersions.binds (ps := pLVersions) fun _ _ _ _ _ _ us hl => match us, hl with | [_, _], _ => rfl⟩
  have FIsInteger := fun_mk (st := sIsInteger) lIsInteger cIsInteger kIsInteger
  have DIsInteger : DefAt K mg "is_integer" sIsInteger pIsInteger fIsInteger _ := ⟨FIsInteger, PySem.W.mg_of X G aIsInteger, FIsInteger.binds (ps := pIsInteger) fun _ _ _ _ _ _ us hl => match us, hl with | [_], _ => rfl⟩
  have FIsVersion := fun_mk (st := sIsVersion) lIsVersion cIsVersion kIsVersion
  have DIsVersion : DefAt K mg "is_version" sIsVersion pIsVersion fIsVersion _ := ⟨FIsVersion, PySem.W.mg_of X G aIsVersion, FIsVersion.binds (ps := pIsVersion) fun _ _ _ _ _ _ us hl => match us, hl with | [_], _ => rfl⟩
  have FCheckVersion := fun_mk (st := sCheckVersion) lCheckVersion cCheckVersion kCheckVersion
  have DCheckVersion : DefAt K mg "check_version" sCheckVersion pCheckVersion fCheckVersion _ := ⟨FCheckVersion, PySem.W.mg_of X G aCheckVersion, FCheckVersion.binds (ps := pCheckVersion) fun _ _ _ _ _ _ us hl => match us, hl with | [_], _ => rfl⟩
  have FVersionText := fun_mk (st := sVersionText) lVersionText cVersionText kVersionText
  have DVersionText : DefAt K mg "version_text" sVersionText pVersionText fVersionText _ := ⟨FVersionText, PySem.W.mg_of X G aVersionText, FVersionText.binds (ps := pVersionText) fun _ _ _ _ _ _ us hl => match us, hl with | [_], _ => rfl⟩
  have FLaw := fun_mk (st := sLaw) lLaw cLaw kLaw
  have DLaw : DefAt K mg "law" sLaw pLaw fa _ := ⟨FLaw, PySem.W.mg_of X G aLaw, FLaw.binds (ps := pLaw) fun _ _ _ _ _ _ us hl => match us, hl with | [_], _ => rfl⟩
  have kbVersionText : KBinds K _ pVersionText ["version"] kwG kwV := kb1 FVersionText fun _ _ _ _ _ _ _ => rfl
  have kbReadVersion : KBinds K _ pReadVersion ["text"] kwG kwV := kb1 FReadVersion fun _ _ _ _ _ _ _ => rfl
  refine ⟨PySem.W.fnOf "law" "law" (defArgs sLaw) (defBody sLaw) (defScope sLaw) .none kVLaw dcLaw pmLaw anLaw cdLaw ctLaw, fun s v => .of_eq rfl, fun base _ _ => ?_⟩
  have GLDeck : FnOk l.prog w K mg base CX0 1 fLDeck _ pLDeck (spLDeck K) := ok_LDeck Z DLDeck
  have GLDraw : FnOk l.prog w K mg base CX0 1 fLDraw _ pLDraw spLDraw := ok_LDraw Z DLDraw
  have GLFigures : FnOk l.prog w K mg base CX0 1 fLFigures _ pLFigures spLFigures := ok_LFigures Z DLFigures
  have GLSort : FnOk l.prog w K mg base CX0 2 fLSort _ pLSort (spLSort K) := ok_LSort Z DLSort DLFigures GLFigures
  have GLWalked : FnOk l.prog w K mg base CX0 3 fLWalked _ pLWalked (spLWalked K) := ok_LWalked Z DLWalked DLFigures GLFigures DLSort GLSort
  have GLDue : FnOk l.prog w K mg base CX0 4 fLDue _ pLDue (spLDue K) := ok_LDue Z DLDue DLWalked GLWalked
  have GLText : FnOk l.prog w K mg base CX0 1 fLText _ pLText (spLText K) := ok_LText Z DLText
  have GReaderInit : FnOk l.prog w K mg base (L2.CX l.prog w) 1 fReaderInit _ pReaderInit (spReaderInit K CR) := ok_ReaderInit Z RT FReaderInit
  have GReaderFinish : FnOk l.prog w K mg base (L2.CX l.prog w) 1 fReaderFinish _ pReaderFinish (spReaderFinish K CR CB) := ok_ReaderFinish Z RT FReaderFinish
  have GReaderComes : FnOk l.prog w K mg base CX0 1 fReaderComes _ pReaderComes (spReaderComes K CR) := ok_ReaderComes Z RT FReaderComes
  have GReaderTake : FnOk l.prog w K mg base CX0 2 fReaderTake _ pReaderTake (spReaderTake K CR) := ok_ReaderTake Z RT FReaderTake MReaderComes BReaderComes GReaderComes
  have GReaderExpect : FnOk l.prog w K mg base (L2.CX l.prog w) 3 fReaderExpect _ pReaderExpect (spReaderExpect K CR CB) := ok_ReaderExpect Z RT FReaderExpect MReaderTake BReaderTake GReaderTake
  have GReaderNumber : FnOk l.prog w K mg base (L2.CX l.prog w) 3 fReaderNumber _ pReaderNumber (spReaderNumber K CR CB) := ok_ReaderNumber Z RT FReaderNumber MReaderTake BReaderTake GReaderTake
  have GSortFrom : FnOk l.prog w K mg base (L2.CX l.prog w) 4 fSortFrom _ pSortFrom (spSortFrom K CR CB) := ok_SortFrom Z RT SO DSortFrom MReaderExpect BReaderExpect GReaderExpect MReaderTake BReaderTake GReaderTake
  have GVersionFrom : FnOk l.prog w K mg base (L2.CX l.prog w) 5 fVersionFrom _ pVersionFrom (spVersionFrom K CR CB) := ok_VersionFrom Z RT DVersionFrom MReaderExpect BReaderExpect GReaderExpect MReaderNumber BReaderNumber GReaderNumber MReaderTake BReaderTake GReaderTake DSortFrom GSortFrom
  have GReadWhole : FnOk l.prog w K mg base (L2.CX l.prog w) 6 fReadWhole _ pReadWhole (spReadWhole K CB fVersionFrom) := ok_ReadWhole Z RT DReadWhole MReaderInit BReaderInit GReaderInit MReaderFinish BReaderFinish GReaderFinish DVersionFrom GVersionFrom
  have GReadVersion : FnOk l.prog w K mg base (L2.CX l.prog w) 7 fReadVersion _ pReadVersion (spReadVersion K CR CB) := ok_ReadVersion Z RT DReadVersion DReadWhole GReadWhole DVersionFrom GVersionFrom
  have GLTold : FnOk l.prog w K mg base CX0 8 fLTold _ pLTold (spLTold K) := ok_LTold Z RT DLTold DReadVersion GReadVersion
  have GLNext : FnOk l.prog w K mg base CX0 1 fLNext _ pLNext (spLNext K) := ok_LNext Z DLNext
  have GLPick : FnOk l.prog w K mg base CX0 2 fLPick _ pLPick spLPick := ok_LPick Z DLPick DLDraw GLDraw
  have GLNumber : FnOk l.prog w K mg base CX0 3 fLNumber _ pLNumber spLNumber := ok_LNumber Z DLNumber DLDraw GLDraw DLPick GLPick
  have GLVersion : FnOk l.prog w K mg base CX0 4 fLVersion _ pLVersion (spLVersion K) := ok_LVersion Z DLVersion DLDraw GLDraw DLNumber GLNumber DLPick GLPick
  have GLVersions : FnOk l.prog w K mg base CX0 5 fLVersions _ pLVersions (spLVersions K) := ok_LVersions Z DLVersions DLDraw GLDraw DLNext GLNext DLPick GLPick DLVersion GLVersion
  have GIsInteger : FnOk l.prog w K mg base CX0 1 fIsInteger _ pIsInteger spIsInteger := ok_IsInteger Z DIsInteger
  have GIsVersion : FnOk l.prog w K mg base CX0 2 fIsVersion _ pIsVersion (spIsVersion K) := ok_IsVersion Z DIsVersion DIsInteger GIsInteger
  have GCheckVersion : FnOk l.prog w K mg base CX0 3 fCheckVersion _ pCheckVersion (spCheckVersion K) := ok_CheckVersion Z DCheckVersion DIsVersion GIsVersion
  have GVersionText : FnOk l.prog w K mg base CX0 4 fVersionText _ pVersionText (spVersionText K) := ok_VersionText Z SO DVersionText DCheckVersion GCheckVersion
  exact ok_Law Z DLaw DLDeck GLDeck DLDraw GLDraw DLDue GLDue DLText GLText DLTold GLTold DLVersions GLVersions DReadVersion (noexc GReadVersion fun _ _ _ _ => readOk_sub) DVersionText GVersionText kbVersionText kbReadVersion
end Zj

open PySem PySem.W PyProof.Rows in
set_option maxRecDepth 100000 in
set_option maxHeartbeats 0 in
theorem PySem.Challenge.cw_versionjudge_k02_whole_texts_of_versions_holds : PySem.Challenge.rw_versionjudge_k02_whole_texts_of_versions.Holds := by
  w_on; o_law; k_head; (case hw => w_witness2)
  k_fill
  refine Zj.walkG (n := 63) (k := 9) (x := "_law_script") (sp := Zj.spLaw) (l := PySem.Challenge.rw_versionjudge_k02_whole_texts_of_versions) rfl (by decide) rfl ⟨rfl, by decide, by decide⟩ (fun w h Y => PySem.W.kIn_of Y) ?F (fun K H a ns hl hS => ⟨a, ns, rfl, hS, hl, fun _ => rfl⟩)
  case F =>
    intro w mg fa h KX G hmg
    refine' Zj.all_mk KX G hmg ?aReader ?r1 ?r2 ?r3 ?r4 ?r5 ?r6 ?r7 ?r8 ?aBad ?b1 ?b2 ?b3 ?b4 ?b5 ?b6 ?b7 ?b8 ?b9 ?b10 ?b11 ?b12 ?b13 ?b16 ?b14 ?b15 ?zS ?yS ?oS ?zD ?aLDeck ?lLDeck ?cLDeck ?kLDeck ?aLDraw ?lLDraw ?cLDraw ?kLDraw ?aLFigures ?lLFigures ?cLFigures ?kLFigures ?aLSort ?lLSort ?cLSort ?kLSort ?aLWalked ?lLWalked ?cLWalked ?kLWalked ?aLDue ?lLDue ?cLDue ?kLDue ?aLText ?lLText ?cLText ?kLText ?aReaderInit ?nReaderInit ?lReaderInit ?cReaderInit ?kReaderInit ?aReaderFinish ?nReaderFinish ?lReaderFinish ?cReaderFinish ?kReaderFinish ?aReaderComes ?nReaderComes ?lReaderComes ?cReaderComes ?kReaderComes ?aReaderTake ?nReaderTake ?lReaderTake ?cReaderTake ?kReaderTake ?aReaderExpect ?nReaderExpect ?lReaderExpect ?cReaderExpect ?kReaderExpect ?aReaderNumber ?nReaderNumber ?lReaderNumber ?cReaderNumber ?kReaderNumber ?aSortFrom ?lSortFrom ?cSortFrom ?kSortFrom ?aVersionFrom ?lVersionFrom ?cVersionFrom ?kVersionFrom ?aReadWhole ?lReadWhole ?cReadWhole ?kReadWhole ?aReadVersion ?lReadVersion ?cReadVersion ?kReadVersion ?aLTold ?lLTold ?cLTold ?kLTold ?aLNext ?lLNext ?cLNext ?kLNext ?aLPick ?lLPick ?cLPick ?kLPick ?aLNumber ?lLNumber ?cLNumber ?kLNumber ?aLVersion ?lLVersion ?cLVersion ?kLVersion ?aLVersions ?lLVersions ?cLVersions ?kLVersions ?aIsInteger ?lIsInteger ?cIsInteger ?kIsInteger ?aIsVersion ?lIsVersion ?cIsVersion ?kIsVersion ?aCheckVersion ?lCheckVersion ?cCheckVersion ?kCheckVersion ?aVersionText ?lVersionText ?cVersionText ?kVersionText ?aLaw ?lLaw ?cLaw ?kLaw ?zisinstance ?ztuple ?zbool ?zall ?zlist ?zrepr ?zenumerate ?zint ?zmax ?zlen ?zrange ?zstr ?zWHOLE
    (case aReader => k_is)
    (case r1 => k_is)
    (case r2 => k_is)
    (case r3 => k_is)
    (case r4 => k_is)
    (case r5 => k_is)
    (case r6 => k_is)
    (case r7 => k_is)
    (case r8 => k_is)
    (case aBad => k_is)
    (case b1 => k_is)
    (case b2 => decide +kernel)
    (case b3 => k_is)
    (case b4 => k_is)
    (case b5 => k_is)
    (case b6 => k_is)
    (case b7 => k_is)
    (case b8 => k_is)
    (case b9 => k_is)
    (case b10 => k_is)
    (case b11 => k_is)
    (case b12 => k_is)
    (case b13 => k_is)
    (case b16 => k_is)
    (case b14 => k_is)
    (case b15 => k_is)
    (case zS => k_is)
    (case yS => k_is)
    (case oS => exact rfl)
    (case zD => k_is)
    (case aLDeck => k_is)
    (case lLDeck => k_is)
    (case cLDeck => k_is)
    (case kLDeck => k_is)
    (case aLDraw => k_is)
    (case lLDraw => k_is)
    (case cLDraw => k_is)
    (case kLDraw => k_is)
    (case aLFigures => k_is)
    (case lLFigures => k_is)
    (case cLFigures => k_is)
    (case kLFigures => k_is)
    (case aLSort => k_is)
    (case lLSort => k_is)
    (case cLSort => k_is)
    (case kLSort => k_is)
    (case aLWalked => k_is)
    (case lLWalked => k_is)
    (case cLWalked => k_is)
    (case kLWalked => k_is)
    (case aLDue => k_is)
    (case lLDue => k_is)
    (case cLDue => k_is)
    (case kLDue => k_is)
    (case aLText => k_is)
    (case lLText => k_is)
    (case cLText => k_is)
    (case kLText => k_is)
    (case aReaderInit => k_is)
    (case nReaderInit => k_is)
    (case lReaderInit => k_is)
    (case cReaderInit => k_is)
    (case kReaderInit => k_is)
    (case aReaderFinish => k_is)
    (case nReaderFinish => k_is)
    (case lReaderFinish => k_is)
    (case cReaderFinish => k_is)
    (case kReaderFinish => k_is)
    (case aReaderComes => k_is)
    (case nReaderComes => k_is)
    (case lReaderComes => k_is)
    (case cReaderComes => k_is)
    (case kReaderComes => k_is)
    (case aReaderTake => k_is)
    (case nReaderTake => k_is)
    (case lReaderTake => k_is)
    (case cReaderTake => k_is)
    (case kReaderTake => k_is)
    (case aReaderExpect => k_is)
    (case nReaderExpect => k_is)
    (case lReaderExpect => k_is)
    (case cReaderExpect => k_is)
    (case kReaderExpect => k_is)
    (case aReaderNumber => k_is)
    (case nReaderNumber => k_is)
    (case lReaderNumber => k_is)
    (case cReaderNumber => k_is)
    (case kReaderNumber => k_is)
    (case aSortFrom => k_is)
    (case lSortFrom => k_is)
    (case cSortFrom => k_is)
    (case kSortFrom => k_is)
    (case aVersionFrom => k_is)
    (case lVersionFrom => k_is)
    (case cVersionFrom => k_is)
    (case kVersionFrom => k_is)
    (case aReadWhole => k_is)
    (case lReadWhole => k_is)
    (case cReadWhole => k_is)
    (case kReadWhole => k_is)
    (case aReadVersion => k_is)
    (case lReadVersion => k_is)
    (case cReadVersion => k_is)
    (case kReadVersion => k_is)
    (case aLTold => k_is)
    (case lLTold => k_is)
    (case cLTold => k_is)
    (case kLTold => k_is)
    (case aLNext => k_is)
    (case lLNext => k_is)
    (case cLNext => k_is)
    (case kLNext => k_is)
    (case aLPick => k_is)
    (case lLPick => k_is)
    (case cLPick => k_is)
    (case kLPick => k_is)
    (case aLNumber => k_is)
    (case lLNumber => k_is)
    (case cLNumber => k_is)
    (case kLNumber => k_is)
    (case aLVersion => k_is)
    (case lLVersion => k_is)
    (case cLVersion => k_is)
    (case kLVersion => k_is)
    (case aLVersions => k_is)
    (case lLVersions => k_is)
    (case cLVersions => k_is)
    (case kLVersions => k_is)
    (case aIsInteger => k_is)
    (case lIsInteger => k_is)
    (case cIsInteger => k_is)
    (case kIsInteger => k_is)
    (case aIsVersion => k_is)
    (case lIsVersion => k_is)
    (case cIsVersion => k_is)
    (case kIsVersion => k_is)
    (case aCheckVersion => k_is)
    (case lCheckVersion => k_is)
    (case cCheckVersion => k_is)
    (case kCheckVersion => k_is)
    (case aVersionText => k_is)
    (case lVersionText => k_is)
    (case cVersionText => k_is)
    (case kVersionText => k_is)
    (case aLaw => k_is)
    (case lLaw => k_is)
    (case cLaw => k_is)
    (case kLaw => k_is)
    (case zisinstance => k_is)
    (case ztuple => k_is)
    (case zbool => k_is)
    (case zall => k_is)
    (case zlist => k_is)
    (case zrepr => k_is)
    (case zenumerate => k_is)
    (case zint => k_is)
    (case zmax => k_is)
    (case zlen => k_is)
    (case zrange => k_is)
    (case zstr => k_is)
    (case zWHOLE => k_is)
#print axioms PySem.Challenge.cw_versionjudge_k02_whole_texts_of_versions_holds
