import PyProof.Rows.All
import Wide.All
import OpenK.AllK
import Wide.FinOn
import HandS.ForMost
import HandS.Zip
import HandS.AnyAll
import PyProof.TupleOfGen
import PyProof.GenCompT
import KE.GoesEnum
import HandS.IsInst
import HandS.Walk
import HandS.EndOwn
import HandS.TupMul
import HandS.SortKw
import HandS.Wide
import KE.DataMinMax
import KE.KEqSeq
import HandS.TupAny
import PySem.Challenge.RW_clusterhall_k04_so_many_times
set_option Elab.async false
set_option linter.all false
set_option maxRecDepth 100000
set_option maxHeartbeats 2000000
namespace GX
open PySem PySem.Spec PyProof.Rows L2 GxR
/-- what the element of a generator expression meets: its own frame, and all that stood when the walked thing was made, but for the table at P -/
structure Ask (X : Cx) (scope : Scope) (P : Addr) (s1 : Shared) (cenv : Env) (s2 : Shared) (m2 : Str → Option Value) : Prop where
  sc : cenv.scope = scope
  gl : cenv.globals = X.env.globals
  bl : cenv.builtins = builtinsNs
  ce : cenv.cells = cloFrom X.env.cells scope.names []
  ns : s2.heap.Ns cenv.locals m2
  kp : ∀ b o, b ≠ P → s1.heap.get? b = some o → s2.heap.get? b = some o
  tb : ∃ ps, s1.heap.get? P = some { cls := .none, data := .fields ps }
/-- the element, over one name -/
def Elt1 (X : Cx) (scope : Scope) (P : Addr) (x : Str) (elt : Expr) (pre : L2.St → V → Prop) (g : L2.St → V → V) : Prop :=
  ∀ (pins : List (Addr × Obj)) (σ : L2.St) (H : Hp) (s1 : Shared) (cenv : Env) (B : Around) (Er : Value → Shared → Prop) (s2 : Shared) (m2 : Str → Option Value) (v : V) (u : Value),
    Inv X pins σ H s1 → Ask X scope P s1 cenv s2 m2 → B.handled = none → m2 x = some u → RelV v u → pre σ v →
    wpAny (model X.prog X.w) B (eval elt cenv) (fun y s3 => RelV (g σ v) y ∧ Keeps s2 s3) Er s2
/-- the element, over two names -/
def Elt2 (X : Cx) (scope : Scope) (P : Addr) (xa xb : Str) (elt : Expr) (pre : L2.St → V → V → Prop) (g : L2.St → V → V → V) : Prop :=
  ∀ (pins : List (Addr × Obj)) (σ : L2.St) (H : Hp) (s1 : Shared) (cenv : Env) (B : Around) (Er : Value → Shared → Prop) (s2 : Shared) (m2 : Str → Option Value) (v w : V) (u z : Value),
    Inv X pins σ H s1 → Ask X scope P s1 cenv s2 m2 → B.handled = none → m2 xa = some u → m2 xb = some z → RelV v u → RelV w z → pre σ v w →
    wpAny (model X.prog X.w) B (eval elt cenv) (fun y s3 => RelV (g σ v w) y ∧ Keeps s2 s3) Er s2
/-- the walked thing stands ready: its items are vs -/
def Begun (X : Cx) (P : Addr) (s1 : Shared) (vs : List V) (it : Value) (s2 : Shared) : Prop :=
  ∃ (Ia : Addr) (fp wr : List Addr) (Pf : Nat → Value → Prop) (Sf : Nat → Heap → Prop) (h2 : Heap) (t2 : Nat), it = .ref Ia ∧ s2 = { s1 with heap := h2, toks := t2 } ∧ (∀ b o, s1.heap.get? b = some o → h2.get? b = some o) ∧ s1.heap.objs.size ≤ h2.objs.size ∧
    (∀ B : Around, B.handled = none → Walks X.prog X.w B Ia fp wr vs.length Pf Sf) ∧ Sf 0 h2 ∧ (∀ b ∈ fp, b < h2.objs.size ∧ b ≠ P) ∧ (∀ b ∈ wr, s1.heap.objs.size ≤ b) ∧ ∀ i u, Pf i u → ∃ v, vs[i]? = some v ∧ RelV v u
/-- the same, its items pairs -/
def Begun2 (X : Cx) (P : Addr) (s1 : Shared) (vs : List (V × V)) (it : Value) (s2 : Shared) : Prop :=
  ∃ (Ia : Addr) (fp wr : List Addr) (Pf : Nat → Array Value → Prop) (Sf : Nat → Heap → Prop) (Mid : Nat → Addr → Heap → Prop) (h2 : Heap) (t2 : Nat), it = .ref Ia ∧ s2 = { s1 with heap := h2, toks := t2 } ∧ (∀ b o, s1.heap.get? b = some o → h2.get? b = some o) ∧ s1.heap.objs.size ≤ h2.objs.size ∧
    (∀ B : Around, B.handled = none → WalksU X.prog X.w B Ia fp wr vs.length Pf Sf Mid) ∧ Sf 0 h2 ∧ (∀ b ∈ fp, b < h2.objs.size ∧ b ≠ P) ∧ (∀ b ∈ wr, s1.heap.objs.size ≤ b) ∧ ∀ i us, Pf i us → ∃ v w u z, us = #[u, z] ∧ vs[i]? = some (v, w) ∧ RelV v u ∧ RelV w z
/-- a generator at g stands ready in s5; it will give the values of ws; H1: what was held before -/
def Ready (X : Cx) (pins : List (Addr × Obj)) (σ : L2.St) (H1 : Hp) (P : Addr) (ws : List V) (g : Addr) (s5 : Shared) : Prop :=
  ∃ (fp wr : List Addr) (G : Array GenState → Array GenState → Prop) (F : Nat → Value → Prop) (Sf : Nat → Shared → Prop),
    WalksS X.prog X.w X.A.in4 g fp wr G ws.length F Sf ∧ Sf 0 s5 ∧ (∀ b ∈ fp, b < s5.heap.objs.size) ∧ g ∈ fp ∧ (∀ i s9, Sf i s9 → s9.TypeIs (.ref g) "generator") ∧ (∀ j y, F j y → ∃ v, ws[j]? = some v ∧ RelV v y) ∧
    ∀ s', Moved wr G s5 s' → ∃ H2, Tabbed P H1 H2 ∧ Inv X pins σ H2 s'
/-- what the scope of a generator expression, with its first name x, is, within a def of the scope sc -/
structure GenV (sc scope : Scope) (x : Str) : Prop where
  kind : scope.kind = .function
  co : scope.isCoroutine = false
  cell : ∀ y ∈ scope.names, y.2 ≠ .cell
  dot : scope.names.lookup (".0" : Str) = some NameKind.local
  loc : scope.names.lookup x = some .local
  free : ∀ y ∈ scope.names, y.2 = .free → sc.names.lookup y.1 = some .cell ∨ sc.names.lookup y.1 = some .free
section
variable {X : Cx} {pins : List (Addr × Obj)} {σ : L2.St} {H : Hp} {s : Shared}
theorem GenV.to {scope : Scope} {x : Str} (S : GenV X.env.scope scope x) (I : Inv X pins σ H s) : GenS X.env scope x :=
  ⟨S.kind, S.co, S.cell, S.dot, S.loc, fun y hy e => by
    rcases S.free y hy e with k | k
    · exact I.ok.has _ (.inl k)
    · exact I.ok.has _ (.inr k)⟩
theorem all_pass (n : Nat) : passing (fun _ => true) n 0 = List.range n := by
  simp [passing]
theorem gen1 {c P : Addr} {elt iter : Expr} {x : Str} {px gpos : Pos} {scope : Scope} {pre : L2.St → V → Prop} {g : L2.St → V → V} {k : Nat} {Qg : Value → Shared → Prop}
    (hr : Room k X.A) (TB : TabB X.base X.mg c P) (hcode : X.env.code = .ref c) (S : GenS X.env scope x) (hel : Elt1 X scope P x elt pre g) (hs : ∀ v, genFold iter X.env v = pure v)
    (h : wpAny (model X.prog X.w) X.A (eval iter X.env) (fun xv sA => ∃ H1 s1, Inv X pins σ H1 s1 ∧ TabG H1 P ∧
      wpAny (model X.prog X.w) X.A (pyIter xv) (fun it s2 => ∃ vs, Begun X P s1 vs it s2 ∧ (∀ v ∈ vs, pre σ v) ∧ ∀ a s5, Ready X pins σ H1 P (vs.map (g σ)) a s5 → Qg (.ref a) s5) X.xe sA) X.xe s) :
    wpAny (model X.prog X.w) X.A (eval (.GeneratorExp elt [⟨.Name x px, iter, [], 0⟩] scope gpos) X.env) Qg X.xe s := by
  refine wpAny_GeneratorExp_walksQ hr.hd S.co (closure_ok S.free) S.cell S.dot S.loc S.kind (by have := hr.dp; omega) ?_ hs
  refine wpAny_mono h (fun xv sA h1 => ?_) (fun _ _ e => e)
  obtain ⟨H1, s1, I1, ⟨ps, hP, ht⟩, hit⟩ := h1
  refine wpAny_mono hit (fun it s2 h2 => ?_) (fun _ _ e => e)
  obtain ⟨vs, ⟨Ia, fp, wr, Pf, Sf, hp2, t2, rfl, rfl, kp, sz, W, st0, hfp, hwr, hPf⟩, hpre, hQ⟩ := h2
  have tabS : s1.heap.get? P = some { cls := .none, data := .fields ps } := I1.hok P _ hP
  have tabL : P < s1.heap.objs.size := Heap.lt_size tabS
  have tab2 : hp2.get? P = some { cls := .none, data := .fields ps } := kp _ _ tabS
  have cd : PySem.W.CodeHd hp2 c P := TB.code.keeps fun b u e => kp b u (I1.bk b u e)
  have lim : hp2.NoLimit := I1.nolimit.keeps kp
  refine ⟨lim, ?_⟩
  have cont : ∀ (code : Value) (h3 : Heap) (tk : Nat) (ps' : Array Value), Heap.ExtBut P hp2 h3 → hp2.objs.size ≤ h3.objs.size → h3.get? P = some { cls := .none, data := .fields ps' } → (∃ more, ps' = ps ++ more) → TriplesOk ps'.toList →
      wpAny (model X.prog X.w) X.A (builtinsFor X.env.globals X.env.builtins) (fun bi s4 =>
        ∃ I fp wr n0 P0 St0 pz F, Value.ref Ia = .ref I ∧ (∀ B : Around, B.handled = none → Walks X.prog X.w B I fp wr n0 P0 St0) ∧ St0 0 s4.heap ∧ (∀ b ∈ fp, b < s4.heap.objs.size) ∧ s4.heap.NoLimit ∧ cStatics ∉ wr ∧
          (∀ hf : Heap, (∀ b o, s4.heap.get? b = some o → hf.get? b = some o) →
            QuietGen X.prog X.w (genEnv scope (cloFrom X.env.cells scope.names []) s4.heap.objs.size code bi X.env) x [] elt (List.range s4.heap.objs.size) wr P0 pz F hf) ∧
          (∀ a h5 tk gs, gs.bare = true → s4.heap.objs.size < a → h5.objs.size = a + 1 → (∀ b o, s4.heap.get? b = some o → h5.get? b = some o) →
            WalksS X.prog X.w X.A.in4 a (a :: s4.heap.objs.size :: List.range s4.heap.objs.size) (s4.heap.objs.size :: wr) (GenOnlyQ s4.gens.size) (passing pz n0 0).length
              (fun j y => ∃ i, (passing pz n0 0)[j]? = some i ∧ F i y) (GenAt X.prog X.w X.A.in4 a s4.gens.size s4.heap.objs.size (List.range s4.heap.objs.size) wr pz n0 F) →
            GenAt X.prog X.w X.A.in4 a s4.gens.size s4.heap.objs.size (List.range s4.heap.objs.size) wr pz n0 F 0 { s4 with gens := s4.gens.push gs, toks := tk, heap := h5 } →
            Qg (.ref a) { s4 with gens := s4.gens.push gs, toks := tk, heap := h5 })) X.xe { s1 with heap := h3, toks := tk } := by
    intro code h3 tk ps' hx hsz hP3 hmore ht3
    obtain ⟨bm, ob, e1, e2, e3, e4, e5, e6, e7, e8⟩ := TB.bm
    have kp3 : ∀ b u, b ≠ P → s1.heap.get? b = some u → h3.get? b = some u := fun b u hb e => hx b u hb (kp b u e)
    have ncs : cStatics < s1.heap.objs.size := let ⟨_, hns, _⟩ := I1.nolimit; hns.lt
    have ncP : cStatics ≠ P := fun e => by
      obtain ⟨_, ⟨o', es, ep, ho, hd, _⟩, _⟩ := I1.nolimit
      rw [e, tabS] at ho
      cases ho
      cases hd
    refine wpAny_builtinsFor (m := X.mg) (by rw [I1.ok.glob]; exact ((I1.mod.glob.keeps I1.bk).keeps kp).extBut hx TB.gP) e1 e2 (kp3 _ _ e4 (I1.bk _ _ e5)) e6 e7 e8 ?_
    refine ⟨Ia, fp, wr, vs.length, Pf, Sf, (fun _ => true), (fun i y => ∃ v, vs[i]? = some v ∧ RelV (g σ v) y), rfl, W, ?_, fun b hb => Nat.lt_of_lt_of_le (hfp b hb).1 hsz, lim.extBut hx ncP, fun z => Nat.lt_irrefl _ (Nat.lt_of_lt_of_le ncs (hwr _ z)), ?_, ?_⟩
    · exact (W X.A hr.hd).frame _ _ _ st0 fun b hb u e => hx b u (hfp b hb).2 e
    · intro hf hkf
      refine ⟨fun B Er i v s2 m2 hB hv hn hm hk => ?_, fun B Er i v s2 m2 hB hv hp hn hm hk => ?_⟩
      · simp only [List.forIn_nil]
        exact wpAny_pure ⟨rfl, keeps_refl _⟩
      · obtain ⟨v', hv', rv⟩ := hPf i v hv
        have ask : Ask X scope P s1 (genEnv scope (cloFrom X.env.cells scope.names []) h3.objs.size code builtinsNs X.env) s2 m2 := by
          refine ⟨rfl, rfl, rfl, rfl, hn, fun b o hb e => ?_, ⟨ps, tabS⟩⟩
          have hl : b < s1.heap.objs.size := Heap.lt_size e
          refine hk b (List.mem_range.mpr (Nat.lt_of_lt_of_le hl (Nat.le_trans sz hsz))) (fun z => ?_) o (hkf b o (kp3 b o hb e))
          exact Nat.lt_irrefl _ (Nat.lt_of_lt_of_le hl (hwr b z))
        exact wpAny_mono (hel pins σ H1 s1 _ B Er s2 m2 v' v I1 ask hB hm rv (hpre v' (List.mem_of_getElem? hv'))) (fun y s3 r => ⟨⟨v', hv', r.1⟩, r.2⟩) fun _ _ e => e
    · intro a h5 tk5 gs hgb hag hsz5 hk5 W5 hat
      simp only [all_pass, List.length_range] at W5
      refine hQ a _ ⟨_, _, _, _, _, by rw [List.length_map]; exact W5, hat, fun b hb => ?_, List.mem_cons_self, fun i s9 st => ?_, fun j y hy => ?_, fun s' hm => ?_⟩
      · show b < h5.objs.size
        rcases List.mem_cons.mp hb with z | z
        · rw [z, hsz5]
          exact Nat.lt_succ_self _
        · rcases List.mem_cons.mp z with z | z
          · rw [z, hsz5]
            exact Nat.lt_succ_of_lt hag
          · rw [hsz5]
            exact Nat.lt_succ_of_lt (Nat.lt_trans (List.mem_range.mp z) hag)
      · exact st.1.typeIs
      · obtain ⟨i, hij, v, hv, ry⟩ := hy
        obtain ⟨hj, ej⟩ := List.getElem?_eq_some_iff.mp hij
        rw [List.getElem_range] at ej
        subst ej
        exact ⟨g σ v, by rw [List.getElem?_map, hv]; rfl, ry⟩
      · obtain ⟨more, em⟩ := hmore
        have nwr : ∀ b u, s1.heap.get? b = some u → b ∉ h3.objs.size :: wr := fun b u e hb => by
          have hl := Heap.lt_size e
          rcases List.mem_cons.mp hb with z | z
          · rw [z] at hl
            exact Nat.lt_irrefl _ (Nat.lt_of_lt_of_le hl (Nat.le_trans sz hsz))
          · exact Nat.lt_irrefl _ (Nat.lt_of_lt_of_le hl (hwr b z))
        have J := inv_tab (more := more) (h' := s'.heap) (g' := s'.gens) (d' := s'.drawn) (t' := s'.toks) I1 hP (fun b u hb e => hm.heap b u (nwr b u e) (hk5 b u (kp3 b u hb e)))
          (by rw [← em]; exact hm.heap P _ (nwr P _ tabS) (hk5 P _ hP3)) (AllBare.movedS (I1.bare.push hgb) hm)
        rw [sh_eta s1 s' hm.os] at J
        exact ⟨upd H1 P (.tbl (ps ++ more)), ⟨⟨ps ++ more, upd_same, by rw [← em]; exact ht3⟩, fun b hb => upd_ne hb⟩, J⟩
  cases hf : codeAmong gpos ps.toList with
  | none =>
    refine wpAny_genexprCodeX hcode (cd.code tab2 ht) (cd.tab tab2) hf fun c' h' tk hx hge hlt hco' _ htab' _ => ?_
    obtain ⟨o1, us, f1, tf, fl, tg, inF, tx, tt, op, _, _, _, _, _, _, _, _, _, htr, _⟩ := hco'
    exact cont _ h' tk _ hx (Nat.le_trans hge (Nat.le_of_lt hlt)) htab'.2 ⟨_, rfl⟩ htr
  | some cv =>
    refine wpAny_genexprCode_hit hcode (cd.code tab2 ht) hf ?_
    exact cont cv hp2 t2 ps (Heap.ExtBut.refl _ _) (Nat.le_refl _) tab2 ⟨#[], by simp⟩ ht
theorem gen2 {c P : Addr} {elt iter : Expr} {xa xb : Str} {pa pb pt gpos : Pos} {kt : Nat} {scope : Scope} {pre : L2.St → V → V → Prop} {g : L2.St → V → V → V} {k : Nat} {Qg : Value → Shared → Prop}
    (hr : Room k X.A) (TB : TabB X.base X.mg c P) (hcode : X.env.code = .ref c) (S : GenS X.env scope xa) (Sb : scope.names.lookup xb = some .local) (hab : xa ≠ xb) (hel : Elt2 X scope P xa xb elt pre g) (hs : ∀ v, genFold iter X.env v = pure v)
    (h : wpAny (model X.prog X.w) X.A (eval iter X.env) (fun xv sA => ∃ H1 s1, Inv X pins σ H1 s1 ∧ TabG H1 P ∧
      wpAny (model X.prog X.w) X.A (pyIter xv) (fun it s2 => ∃ vs, Begun2 X P s1 vs it s2 ∧ (∀ v ∈ vs, pre σ v.1 v.2) ∧ ∀ a s5, Ready X pins σ H1 P (vs.map fun v => g σ v.1 v.2) a s5 → Qg (.ref a) s5) X.xe sA) X.xe s) :
    wpAny (model X.prog X.w) X.A (eval (.GeneratorExp elt [⟨.Tuple [.Name xa pa, .Name xb pb] kt pt, iter, [], 0⟩] scope gpos) X.env) Qg X.xe s := by
  refine wpAny_GeneratorExp_walksQT hr.hd S.co (closure_ok S.free) S.cell S.dot S.loc Sb hab S.kind (by have := hr.dp; omega) ?_ hs
  refine wpAny_mono h (fun xv sA h1 => ?_) (fun _ _ e => e)
  obtain ⟨H1, s1, I1, ⟨ps, hP, ht⟩, hit⟩ := h1
  refine wpAny_mono hit (fun it s2 h2 => ?_) (fun _ _ e => e)
  obtain ⟨vs, ⟨Ia, fp, wr, Pf, Sf, Mid, hp2, t2, rfl, rfl, kp, sz, W, st0, hfp, hwr, hPf⟩, hpre, hQ⟩ := h2
  have tabS : s1.heap.get? P = some { cls := .none, data := .fields ps } := I1.hok P _ hP
  have tabL : P < s1.heap.objs.size := Heap.lt_size tabS
  have tab2 : hp2.get? P = some { cls := .none, data := .fields ps } := kp _ _ tabS
  have cd : PySem.W.CodeHd hp2 c P := TB.code.keeps fun b u e => kp b u (I1.bk b u e)
  have lim : hp2.NoLimit := I1.nolimit.keeps kp
  refine ⟨lim, ?_⟩
  have cont : ∀ (code : Value) (h3 : Heap) (tk : Nat) (ps' : Array Value), Heap.ExtBut P hp2 h3 → hp2.objs.size ≤ h3.objs.size → h3.get? P = some { cls := .none, data := .fields ps' } → (∃ more, ps' = ps ++ more) → TriplesOk ps'.toList →
      wpAny (model X.prog X.w) X.A (builtinsFor X.env.globals X.env.builtins) (fun bi s4 =>
        ∃ I fp wr n0 P0 St0 M0 pz F, Value.ref Ia = .ref I ∧ (∀ B : Around, B.handled = none → WalksU X.prog X.w B I fp wr n0 P0 St0 M0) ∧ (∀ i vals, P0 i vals → ∃ va vb, vals = #[va, vb]) ∧ St0 0 s4.heap ∧ (∀ b ∈ fp, b < s4.heap.objs.size) ∧ s4.heap.NoLimit ∧ cStatics ∉ wr ∧
          (∀ hf : Heap, (∀ b o, s4.heap.get? b = some o → hf.get? b = some o) →
            QuietGenT X.prog X.w (genEnv scope (cloFrom X.env.cells scope.names []) s4.heap.objs.size code bi X.env) xa xb [] elt (List.range s4.heap.objs.size) wr P0 pz F hf) ∧
          (∀ a h5 tk gs, gs.bare = true → s4.heap.objs.size < a → h5.objs.size = a + 1 → (∀ b o, s4.heap.get? b = some o → h5.get? b = some o) →
            WalksS X.prog X.w X.A.in4 a (a :: s4.heap.objs.size :: List.range s4.heap.objs.size) (s4.heap.objs.size :: wr) (GenOnlyQ s4.gens.size) (passing pz n0 0).length
              (fun j y => ∃ i, (passing pz n0 0)[j]? = some i ∧ F i y) (GenAt X.prog X.w X.A.in4 a s4.gens.size s4.heap.objs.size (List.range s4.heap.objs.size) wr pz n0 F) →
            GenAt X.prog X.w X.A.in4 a s4.gens.size s4.heap.objs.size (List.range s4.heap.objs.size) wr pz n0 F 0 { s4 with gens := s4.gens.push gs, toks := tk, heap := h5 } →
            Qg (.ref a) { s4 with gens := s4.gens.push gs, toks := tk, heap := h5 })) X.xe { s1 with heap := h3, toks := tk } := by
    intro code h3 tk ps' hx hsz hP3 hmore ht3
    obtain ⟨bm, ob, e1, e2, e3, e4, e5, e6, e7, e8⟩ := TB.bm
    have kp3 : ∀ b u, b ≠ P → s1.heap.get? b = some u → h3.get? b = some u := fun b u hb e => hx b u hb (kp b u e)
    have ncs : cStatics < s1.heap.objs.size := let ⟨_, hns, _⟩ := I1.nolimit; hns.lt
    have ncP : cStatics ≠ P := fun e => by
      obtain ⟨_, ⟨o', es, ep, ho, hd, _⟩, _⟩ := I1.nolimit
      rw [e, tabS] at ho
      cases ho
      cases hd
    refine wpAny_builtinsFor (m := X.mg) (by rw [I1.ok.glob]; exact ((I1.mod.glob.keeps I1.bk).keeps kp).extBut hx TB.gP) e1 e2 (kp3 _ _ e4 (I1.bk _ _ e5)) e6 e7 e8 ?_
    refine ⟨Ia, fp, wr, vs.length, Pf, Sf, Mid, (fun _ => true), (fun i y => ∃ v, vs[i]? = some v ∧ RelV (g σ v.1 v.2) y), rfl, W, (fun i vals hv => by obtain ⟨_, _, u, z, e, _⟩ := hPf i vals hv; exact ⟨u, z, e⟩), ?_, fun b hb => Nat.lt_of_lt_of_le (hfp b hb).1 hsz, lim.extBut hx ncP, fun z => Nat.lt_irrefl _ (Nat.lt_of_lt_of_le ncs (hwr _ z)), ?_, ?_⟩
    · exact (W X.A hr.hd).frame _ _ _ st0 fun b hb u e => hx b u (hfp b hb).2 e
    · intro hf hkf
      refine ⟨fun B Er i va vb s2 m2 hB hv hn hm hm' hk => ?_, fun B Er i va vb s2 m2 hB hv hp hn hm hm' hk => ?_⟩
      · simp only [List.forIn_nil]
        exact wpAny_pure ⟨rfl, keeps_refl _⟩
      · obtain ⟨v', w', u', z', eq, hv', rv, rw'⟩ := hPf i _ hv
        obtain ⟨rfl, rfl⟩ : va = u' ∧ vb = z' := by simpa using congrArg Array.toList eq
        have ask : Ask X scope P s1 (genEnv scope (cloFrom X.env.cells scope.names []) h3.objs.size code builtinsNs X.env) s2 m2 := by
          refine ⟨rfl, rfl, rfl, rfl, hn, fun b o hb e => ?_, ⟨ps, tabS⟩⟩
          have hl : b < s1.heap.objs.size := Heap.lt_size e
          refine hk b (List.mem_range.mpr (Nat.lt_of_lt_of_le hl (Nat.le_trans sz hsz))) (fun z => ?_) o (hkf b o (kp3 b o hb e))
          exact Nat.lt_irrefl _ (Nat.lt_of_lt_of_le hl (hwr b z))
        exact wpAny_mono (hel pins σ H1 s1 _ B Er s2 m2 v' w' va vb I1 ask hB hm hm' rv rw' (hpre (v', w') (List.mem_of_getElem? hv'))) (fun y s3 r => ⟨⟨(v', w'), hv', r.1⟩, r.2⟩) fun _ _ e => e
    · intro a h5 tk5 gs hgb hag hsz5 hk5 W5 hat
      simp only [all_pass, List.length_range] at W5
      refine hQ a _ ⟨_, _, _, _, _, by rw [List.length_map]; exact W5, hat, fun b hb => ?_, List.mem_cons_self, fun i s9 st => ?_, fun j y hy => ?_, fun s' hm => ?_⟩
      · show b < h5.objs.size
        rcases List.mem_cons.mp hb with z | z
        · rw [z, hsz5]
          exact Nat.lt_succ_self _
        · rcases List.mem_cons.mp z with z | z
          · rw [z, hsz5]
            exact Nat.lt_succ_of_lt hag
          · rw [hsz5]
            exact Nat.lt_succ_of_lt (Nat.lt_trans (List.mem_range.mp z) hag)
      · exact st.1.typeIs
      · obtain ⟨i, hij, v, hv, ry⟩ := hy
        obtain ⟨hj, ej⟩ := List.getElem?_eq_some_iff.mp hij
        rw [List.getElem_range] at ej
        subst ej
        exact ⟨g σ v.1 v.2, by rw [List.getElem?_map, hv]; rfl, ry⟩
      · obtain ⟨more, em⟩ := hmore
        have nwr : ∀ b u, s1.heap.get? b = some u → b ∉ h3.objs.size :: wr := fun b u e hb => by
          have hl := Heap.lt_size e
          rcases List.mem_cons.mp hb with z | z
          · rw [z] at hl
            exact Nat.lt_irrefl _ (Nat.lt_of_lt_of_le hl (Nat.le_trans sz hsz))
          · exact Nat.lt_irrefl _ (Nat.lt_of_lt_of_le hl (hwr b z))
        have J := inv_tab (more := more) (h' := s'.heap) (g' := s'.gens) (d' := s'.drawn) (t' := s'.toks) I1 hP (fun b u hb e => hm.heap b u (nwr b u e) (hk5 b u (kp3 b u hb e)))
          (by rw [← em]; exact hm.heap P _ (nwr P _ tabS) (hk5 P _ hP3)) (AllBare.movedS (I1.bare.push hgb) hm)
        rw [sh_eta s1 s' hm.os] at J
        exact ⟨upd H1 P (.tbl (ps ++ more)), ⟨⟨ps ++ more, upd_same, by rw [← em]; exact ht3⟩, fun b hb => upd_ne hb⟩, J⟩
  cases hf : codeAmong gpos ps.toList with
  | none =>
    refine wpAny_genexprCodeX hcode (cd.code tab2 ht) (cd.tab tab2) hf fun c' h' tk hx hge hlt hco' _ htab' _ => ?_
    obtain ⟨o1, us, f1, tf, fl, tg, inF, tx, tt, op, _, _, _, _, _, _, _, _, _, htr, _⟩ := hco'
    exact cont _ h' tk _ hx (Nat.le_trans hge (Nat.le_of_lt hlt)) htab'.2 ⟨_, rfl⟩ htr
  | some cv =>
    refine wpAny_genexprCode_hit hcode (cd.code tab2 ht) hf ?_
    exact cont cv hp2 t2 ps (Heap.ExtBut.refl _ _) (Nat.le_refl _) tab2 ⟨#[], by simp⟩ ht
/-- a generator expression: it will give the list that the reading hands on -/
structure PGn (X : Cx) (P : Addr) (ge : Expr) (t : L2.St → Hp → (List V → Hp → Prop) → Prop) : Prop where
  run : ∀ (pins : List (Addr × Obj)) (s : Shared) (σ : L2.St) (H : Hp) (R : List V → Hp → Prop) (Qg : Value → Shared → Prop), Inv X pins σ H s → t σ H R →
    (∀ ws H1 a s5, R ws H1 → Ready X pins σ H1 P ws a s5 → Qg (.ref a) s5) → wpAny (model X.prog X.w) X.A (eval ge X.env) Qg X.xe s
/-- over the signs of a text -/
theorem pgn_str {c P : Addr} {elt iter : Expr} {x : Str} {px gpos : Pos} {scope : Scope} {pre : L2.St → V → Prop} {g : L2.St → V → V} {k : Nat} {te : TE}
    (hr : Room k X.A) (TB : TabB X.base X.mg c P) (hcode : X.env.code = .ref c) (S : GenV X.env.scope scope x) (hi : PE X iter te) (hel : Elt1 X scope P x elt pre g) (hs : ∀ v, genFold iter X.env v = pure v) :
    PGn X P (.GeneratorExp elt [⟨.Name x px, iter, [], 0⟩] scope gpos) (fun σ H R => te σ H fun v H1 => ∃ a : Str, v = .str a ∧ TabG H1 P ∧ (∀ c ∈ a.cps.toList, pre σ (.str ⟨#[c]⟩)) ∧ R (a.cps.toList.map fun c => g σ (.str ⟨#[c]⟩)) H1) := by
  refine ⟨fun pins s σ H R Qg I h hQ => gen1 (pins := pins) (σ := σ) hr TB hcode (S.to I) hel hs ?_⟩
  refine thn (hi.run pins s σ H _ I h) fun xv s1 ⟨v, H1, I1, r1, a, ea, hT, hp, q1⟩ => ?_
  subst ea
  obtain ⟨t, rfl⟩ := r1
  refine ⟨H1, s1, I1, hT, wpAny_pyIter_str fun o Sf W hst => ⟨a.cps.toList.map fun c => .str ⟨#[c]⟩, ?_, ?_, fun b s5 hR => ?_⟩⟩
  · obtain ⟨ps, hP, _⟩ := hT
    have tabL : P < s1.heap.objs.size := Heap.lt_size (I1.hok P _ hP)
    refine ⟨s1.heap.objs.size, [s1.heap.objs.size], [s1.heap.objs.size], SignAt a, Sf, s1.heap.push o, s1.toks, rfl, rfl, fun b u e => Heap.get?_push_of_some _ e, ?_, ?_, hst, fun b hb => ?_, fun b hb => ?_, fun i u hu => ?_⟩
    · rw [Heap.size_push]
      exact Nat.le_succ _
    · rw [List.length_map, Array.length_toList]
      exact W
    · rw [List.mem_singleton.mp hb, Heap.size_push]
      exact ⟨Nat.lt_succ_self _, fun z => Nat.ne_of_lt tabL z.symm⟩
    · rw [List.mem_singleton.mp hb]
      exact Nat.le_refl _
    · obtain ⟨cc, tt, hc, rfl⟩ := hu
      refine ⟨.str ⟨#[cc]⟩, ?_, tt, rfl⟩
      rw [List.getElem?_map, Array.getElem?_toList, hc]
      rfl
  · intro v hv
    obtain ⟨cc, hc, rfl⟩ := List.mem_map.mp hv
    exact hp cc hc
  · rw [List.map_map] at hR
    exact hQ _ H1 b s5 q1 hR
/-- over the items of a tuple -/
theorem pgn_tup {c P : Addr} {elt iter : Expr} {x : Str} {px gpos : Pos} {scope : Scope} {pre : L2.St → V → Prop} {g : L2.St → V → V} {k : Nat} {te : TE}
    (hr : Room k X.A) (TB : TabB X.base X.mg c P) (hcode : X.env.code = .ref c) (S : GenV X.env.scope scope x) (hi : PE X iter te) (hel : Elt1 X scope P x elt pre g) (hs : ∀ v, genFold iter X.env v = pure v) :
    PGn X P (.GeneratorExp elt [⟨.Name x px, iter, [], 0⟩] scope gpos) (fun σ H R => te σ H fun v H1 => ∃ (a : Addr) (xs : List V), v = .ref a ∧ SqT X.K H1 a xs ∧ TabG H1 P ∧ (∀ v ∈ xs, pre σ v) ∧ R (xs.map (g σ)) H1) := by
  refine ⟨fun pins s σ H R Qg I h hQ => gen1 (pins := pins) (σ := σ) hr TB hcode (S.to I) hel hs ?_⟩
  refine thn (hi.run pins s σ H _ I h) fun xv s1 ⟨v, H1, I1, r1, a, xs, ea, hX, hT, hp, q1⟩ => ?_
  subst ea
  obtain rfl : xv = Value.ref a := r1
  obtain ⟨its, rv, pt, _⟩ := I1.tuple hX
  obtain ⟨ot, hot, hoc, hod⟩ := _root_.id pt
  have aL : a < s1.heap.objs.size := Heap.lt_size hot
  refine ⟨H1, s1, I1, hT, wpAny_pyIter_tuple pt ⟨xs, ?_, hp, fun b s5 hR => hQ _ H1 b s5 q1 hR⟩⟩
  obtain ⟨ps, hP, _⟩ := hT
  have tabS := I1.hok P _ hP
  have tabL : P < s1.heap.objs.size := Heap.lt_size tabS
  have hn : xs.length = its.toArray.size := by rw [rv.length, List.size_toArray]
  have W := fun (B : Around) (hB : B.handled = none) => Walks.tuple (prog := X.prog) (w := X.w) (A := B) hB s1.heap.objs.size a (Nat.ne_of_lt aL) its.toArray
  rw [← hn] at W
  refine ⟨s1.heap.objs.size, [s1.heap.objs.size, a], [s1.heap.objs.size], _, _, _, s1.toks, rfl, rfl, fun b u e => Heap.get?_push_of_some _ e, ?_, W, ⟨⟨_, Heap.get?_push_size _ rfl, rfl, rfl⟩, ⟨ot, Heap.get?_push_of_some _ hot, hoc, hod⟩⟩, fun b hb => ?_, fun b hb => ?_, fun i u hu => ?_⟩
  · rw [Heap.size_push]
    exact Nat.le_succ _
  · rw [Heap.size_push]
    rcases List.mem_cons.mp hb with z | z
    · rw [z]
      exact ⟨Nat.lt_succ_self _, fun z => Nat.ne_of_lt tabL z.symm⟩
    · rw [List.mem_singleton.mp z]
      refine ⟨Nat.lt_succ_of_lt aL, fun z2 => ?_⟩
      have e2 : s1.heap.get? P = some ot := by rw [← z2]; exact hot
      have e3 := e2.symm.trans tabS
      cases e3
      cases hoc
  · rw [List.mem_singleton.mp hb]
    exact Nat.le_refl _
  · have hu2 : its[i]? = some u := by simpa using hu
    have hi2 : i < its.length := (List.getElem?_eq_some_iff.mp hu2).1
    have hi3 : i < xs.length := by rw [rv.length]; exact hi2
    obtain ⟨u', hu', ru⟩ := rv.get (List.getElem?_eq_getElem hi3)
    rw [hu2] at hu'
    cases hu'
    exact ⟨_, List.getElem?_eq_getElem hi3, ru⟩
/-- over zip of two tuples -/
theorem pgn_zip {c P : Addr} {elt e1 e2 : Expr} {xa xb : Str} {pa pb pt gpos pz pn : Pos} {kt : Nat} {scope : Scope} {pre : L2.St → V → V → Prop} {g : L2.St → V → V → V} {k : Nat} {ta : TA}
    (hr : Room k X.A) (TB : TabB X.base X.mg c P) (hcode : X.env.code = .ref c) (S : GenV X.env.scope scope xa) (Sb : scope.names.lookup xb = some .local) (hab : xa ≠ xb) (hg : Gl X "zip") (hm : X.mg "zip" = none) (ha : PA X [e1, e2] ta) (hel : Elt2 X scope P xa xb elt pre g)
    (hs : ∀ v, genFold (.Call (.Name "zip" pn) [e1, e2] [] pz) X.env v = pure v)
    (he : starEach [e1, e2] X.env = (false, eval e1 X.env) :: starEach [e2] X.env := by rfl) (hpl : (backTo pz (starEach [e2] X.env)).any (·.1) = false := by rfl) :
    PGn X P (.GeneratorExp elt [⟨.Tuple [.Name xa pa, .Name xb pb] kt pt, .Call (.Name "zip" pn) [e1, e2] [] pz, [], 0⟩] scope gpos)
      (fun σ H R => ta σ H fun vs H1 => ∃ (a b : Addr) (xs ys : List V), vs = [.ref a, .ref b] ∧ SqT X.K H1 a xs ∧ SqT X.K H1 b ys ∧ TabG H1 P ∧ (∀ v ∈ xs.zip ys, pre σ v.1 v.2) ∧ R ((xs.zip ys).map fun v => g σ v.1 v.2) H1) := by
  refine ⟨fun pins s σ H R Qg I h hQ => gen2 (pins := pins) (σ := σ) hr TB hcode (S.to I) Sb hab hel hs ?_⟩
  refine Call_ (ld_blt I hg hm PyProof.Rows.boot_zip (PyProof.Rows.callWith_type1 (thn (ha.run pz pins s σ H _ I h) fun us s1 ⟨vs, H1, I1, r1, q1⟩ => ?_) he hpl))
  obtain ⟨a, b, xs, ys, ex, hX, hY, hT, hp, q1⟩ := q1
  subst ex
  obtain ⟨u1, u2, rfl, ra, rb⟩ := vals2 r1
  obtain rfl : u1 = Value.ref a := ra
  obtain rfl : u2 = Value.ref b := rb
  obtain ⟨its, rv, p1, _⟩ := I1.tuple hX
  obtain ⟨jts, rw', p2, _⟩ := I1.tuple hY
  obtain ⟨o1, ho1, oc1, od1⟩ := _root_.id p1
  obtain ⟨o2, ho2, oc2, od2⟩ := _root_.id p2
  have aL : a < s1.heap.objs.size := Heap.lt_size ho1
  have bL : b < s1.heap.objs.size := Heap.lt_size ho2
  refine RZ.call_zipT (show s1.heap.IsTuple a its.toArray from p1) (show s1.heap.IsTuple b jts.toArray from p2) fun h' hz hTI hTO h1 h2 hsz hk => ?_
  refine ⟨H1, s1, I1, hT, wpAny_pyIter_zip hz ⟨xs.zip ys, ?_, hp, fun w s5 hR => hQ _ H1 w s5 q1 hR⟩⟩
  obtain ⟨ps, hP, _⟩ := hT
  have tabS := I1.hok P _ hP
  have tabL : P < s1.heap.objs.size := Heap.lt_size tabS
  have ne1 : a ≠ P := fun z2 => by
    have e2 : s1.heap.get? P = some o1 := by rw [← z2]; exact ho1
    have e3 := e2.symm.trans tabS
    cases e3
    cases oc1
  have ne2 : b ≠ P := fun z2 => by
    have e2 : s1.heap.get? P = some o2 := by rw [← z2]; exact ho2
    have e3 := e2.symm.trans tabS
    cases e3
    cases oc2
  have W := fun (B : Around) (hB : B.handled = none) => (WalksT.zipD2 (prog := X.prog) (w := X.w) (A := B)
    (zip_sep2 (N := s1.heap.objs.size) (fp1 := [a]) (fp2 := [b]) (fun c hc => by rw [List.mem_singleton.mp hc]; exact aL) (fun c hc => by rw [List.mem_singleton.mp hc]; exact bL))
    (Draws.tuple (A := B.in1) hB s1.heap.objs.size a (Nat.ne_of_lt aL) its.toArray) (Draws.tuple (A := B.in1) hB (s1.heap.objs.size + 1) b (Nat.ne_of_lt (Nat.lt_succ_of_lt bL)) jts.toArray)).toU
  have hn : (xs.zip ys).length = min its.toArray.size jts.toArray.size := by rw [List.length_zip, rv.length, rw'.length, List.size_toArray, List.size_toArray]
  rw [← hn] at W
  refine ⟨_, _, _, _, _, _, h', s1.toks, rfl, rfl, hk, by rw [hsz]; exact Nat.le_add_right _ _, W, ⟨hz, hTI, ⟨_, _, hTO⟩, ⟨h1, ⟨o1, hk _ _ ho1, oc1, od1⟩⟩, ⟨h2, ⟨o2, hk _ _ ho2, oc2, od2⟩⟩⟩, fun d hd => ?_, fun d hd => ?_, fun i us hu => ?_⟩
  · rw [hsz]
    have hd2 : d = s1.heap.objs.size + 4 ∨ d = s1.heap.objs.size + 2 ∨ d = s1.heap.objs.size + 3 ∨ d = s1.heap.objs.size ∨ d = a ∨ d = s1.heap.objs.size + 1 ∨ d = b := by simpa using hd
    rcases hd2 with z | z | z | z | z | z | z
    · rw [z]; exact ⟨Nat.add_lt_add_left (by decide) _, fun q => Nat.lt_irrefl _ (Nat.lt_of_le_of_lt (Nat.le_add_right _ 4) (q ▸ tabL))⟩
    · rw [z]; exact ⟨Nat.add_lt_add_left (by decide) _, fun q => Nat.lt_irrefl _ (Nat.lt_of_le_of_lt (Nat.le_add_right _ 2) (q ▸ tabL))⟩
    · rw [z]; exact ⟨Nat.add_lt_add_left (by decide) _, fun q => Nat.lt_irrefl _ (Nat.lt_of_le_of_lt (Nat.le_add_right _ 3) (q ▸ tabL))⟩
    · rw [z]; exact ⟨Nat.lt_add_of_pos_right (by decide), fun q => Nat.lt_irrefl _ (q ▸ tabL)⟩
    · rw [z]; exact ⟨Nat.lt_of_lt_of_le aL (Nat.le_add_right _ 5), ne1⟩
    · rw [z]; exact ⟨Nat.add_lt_add_left (by decide) _, fun q => Nat.lt_irrefl _ (Nat.lt_of_le_of_lt (Nat.le_add_right _ 1) (q ▸ tabL))⟩
    · rw [z]; exact ⟨Nat.lt_of_lt_of_le bL (Nat.le_add_right _ 5), ne2⟩
  · have hd2 : d = s1.heap.objs.size + 4 ∨ d = s1.heap.objs.size + 3 ∨ d = s1.heap.objs.size ∨ d = s1.heap.objs.size + 1 := by simpa using hd
    rcases hd2 with z | z | z | z
    · rw [z]; exact Nat.le_add_right _ _
    · rw [z]; exact Nat.le_add_right _ _
    · rw [z]; exact Nat.le_refl _
    · rw [z]; exact Nat.le_add_right _ _
  · obtain ⟨x1, x2, hx1, hx2, rfl⟩ := hu
    have hu2 : its[i]? = some x1 := by simpa using hx1
    have hw2 : jts[i]? = some x2 := by simpa using hx2
    have hi3 : i < xs.length := by rw [rv.length]; exact (List.getElem?_eq_some_iff.mp hu2).1
    have hj3 : i < ys.length := by rw [rw'.length]; exact (List.getElem?_eq_some_iff.mp hw2).1
    obtain ⟨u', hu', ru⟩ := rv.get (List.getElem?_eq_getElem hi3)
    rw [hu2] at hu'
    cases hu'
    obtain ⟨w', hw', rw2⟩ := rw'.get (List.getElem?_eq_getElem hj3)
    rw [hw2] at hw'
    cases hw'
    exact ⟨xs[i], ys[i], _, _, rfl, by rw [List.getElem?_zip_eq_some]; exact ⟨List.getElem?_eq_getElem hi3, List.getElem?_eq_getElem hj3⟩, ru, rw2⟩
/-- all(..) of a generator expression of truth values -/
theorem pe_allG {P : Addr} {ge : Expr} {t : L2.St → Hp → (List V → Hp → Prop) → Prop} {p pos : Pos} (hg : Gl X "all") (hm : X.mg "all" = none) (hb : bootBuiltins "all" = some (.builtin "all")) (G : PGn X P ge t)
    (he : starEach [ge] X.env = (false, eval ge X.env) :: starEach [] X.env := by rfl) :
    PE X (.Call (.Name "all" p) [ge] [] pos) (fun σ H Q => t σ H fun ws H1 => ∃ bs : List Bool, ws = bs.map V.bl ∧ ∀ H2, Tabbed P H1 H2 → Q (.bl (bs.all _root_.id)) H2) := by
  refine ⟨fun pins s σ H Q I h => ?_⟩
  refine wpAny_Call_Name_kw (ld_blt I hg hm hb ?_)
  refine PyProof.Rows.callWith_builtin1 ?_ he (by rfl)
  rw [he]
  refine Calls.spliced_cons (G.run pins s σ H _ _ I h fun ws H1 a s5 hR hG => ?_)
  obtain ⟨fp, wr, Gr, F, Sf, W, hst, hfp, hgm, hty, hF, hI⟩ := hG
  obtain ⟨bs, rfl, q⟩ := hR
  refine Calls.spliced_nil ?_
  refine call_all_walkS (W.in4_1.self 0 _ _ _ hst ⟨a, fp, wr, Gr, _, F, Sf, fun j => bs.getD j false, rfl, W.in4_1, hst, ?_, fun s' hmv => ?_⟩)
  · intro j y sj Qj Ej hy hQj
    obtain ⟨v, hv, rv⟩ := hF j y hy
    rw [List.getElem?_map] at hv
    cases hb : bs[j]? with
    | none => rw [hb] at hv; cases hv
    | some b =>
      rw [hb] at hv
      cases hv
      obtain rfl : y = Value.bool b := rv
      have e : bs.getD j false = b := by rw [List.getD_eq_getElem?_getD, hb]; rfl
      have hQ2 : Qj (bs.getD j false) sj := hQj
      rw [e] at hQ2
      exact wpAny_truthy_bool hQ2
  · obtain ⟨H2, hT, J⟩ := hI s' hmv
    refine ⟨.bl _, H2, J, rfl, ?_⟩
    have e : (List.range (bs.map V.bl).length).all (fun j => bs.getD j false) = bs.all _root_.id := by
      rw [List.length_map, Bool.eq_iff_iff, List.all_eq_true, List.all_eq_true]
      constructor
      · intro hh b hb
        obtain ⟨j, hj, ej⟩ := List.getElem_of_mem hb
        have q2 := hh j (List.mem_range.mpr hj)
        rw [List.getD_eq_getElem?_getD, List.getElem?_eq_getElem hj] at q2
        rw [← ej]
        exact q2
      · intro hh j hj
        have hj' := List.mem_range.mp hj
        rw [List.getD_eq_getElem?_getD, List.getElem?_eq_getElem hj']
        exact hh _ (List.getElem_mem hj')
    rw [e]
    exact q H2 hT
/-- tuple(..) of a generator expression -/
theorem pe_tupG {P : Addr} {ge : Expr} {t : L2.St → Hp → (List V → Hp → Prop) → Prop} {p pos : Pos} (hg : Gl X "tuple") (hm : X.mg "tuple" = none) (hb : bootBuiltins "tuple" = some (.type "tuple")) (G : PGn X P ge t)
    (he : starEach [ge] X.env = (false, eval ge X.env) :: starEach [] X.env := by rfl) :
    PE X (.Call (.Name "tuple" p) [ge] [] pos) (fun σ H Q => t σ H fun ws H1 => ws.length ≤ sizeLine ∧ ∀ H2 d, Tabbed P H1 H2 → H2 d = none → Q (.ref d) (upd H2 d (.tup ws))) := by
  refine ⟨fun pins s σ H Q I h => ?_⟩
  refine wpAny_Call_Name_kw (ld_blt I hg hm hb ?_)
  refine PyProof.Rows.callWith_type1 ?_ he (by rfl)
  rw [he]
  refine Calls.spliced_cons (G.run pins s σ H _ _ I h fun ws H1 a s5 hR hG => ?_)
  obtain ⟨fp, wr, Gr, F, Sf, W, hst, hfp, hgm, hty, hF, hI⟩ := hG
  obtain ⟨hl, q⟩ := hR
  refine Calls.spliced_nil ?_
  refine call_tuple_gen W.in4_3 hty hst hfp hgm (fun s' acc hmv hacc => ?_) hl
  obtain ⟨H2, hT, J⟩ := hI s' hmv
  have rel : Vals ws acc.toList := by
    have key : ∀ (ws : List V) (us : List Value), ws.length = us.length → (∀ (j : Nat) (v : V) (u : Value), ws[j]? = some v → us[j]? = some u → RelV v u) → Vals ws us := by
      intro ws
      induction ws with
      | nil =>
        intro us hl _
        cases us with
        | nil => exact .nil
        | cons u r => cases hl
      | cons v r ih =>
        intro us hl hk
        cases us with
        | nil => cases hl
        | cons u us =>
          refine .cons (hk 0 v u rfl rfl) (ih us (by simpa using hl) fun j v' u' h1 h2 => hk (j + 1) v' u' h1 h2)
    refine key ws acc.toList (hacc.1.symm.trans Array.length_toList.symm) fun j v u h1 h2 => ?_
    have h3 : acc[j]? = some u := by rw [← Array.getElem?_toList]; exact h2
    obtain ⟨v', hv', rv⟩ := hF j u (hacc.2 j u h3)
    rw [h1] at hv'
    cases hv'
    exact rv
  have I2 : Inv X pins σ (upd H2 s'.heap.objs.size (.tup ws)) { s' with heap := s'.heap.push { cls := .type "tuple", data := .seq acc } } :=
    J.laid (t' := s'.toks) (fun b o e => Heap.get?_push_of_some _ e) (Nat.le_refl _) (show ObjOk X.prog X.w _ _ _ (.tup ws) from ⟨hl, acc.toList, rel, by rw [Array.toArray_toList]; exact IsTup.new _ _⟩)
  exact ⟨.ref s'.heap.objs.size, _, I2, rfl, q H2 _ hT (J.hok.fresh (Nat.le_refl _))⟩
end
end GX

set_option maxHeartbeats 2000000
namespace GX
open PySem PySem.Spec PyProof.Rows L2 GxR
section
variable {X : Cx} {scope : Scope} {P : Addr} {pins : List (Addr × Obj)} {σ : L2.St} {H : Hp} {s1 s2 : Shared} {cenv : Env} {m2 : Str → Option Value} {B : Around} {Er : Value → Shared → Prop} {Q : Value → Shared → Prop}
/-- a name of the generator's own -/
theorem own_name {x : Str} {u : Value} {p : Pos} (a : Ask X scope P s1 cenv s2 m2) (hk : scope.kind = .function) (hl : scope.names.lookup x = some .local) (hm : m2 x = some u) (h : Q u s2) (hd : (x == ("__debug__" : Str)) = false := by decide) :
    wpAny (model X.prog X.w) B (eval (.Name x p) cenv) Q Er s2 :=
  wpAny_Name (wpAny_loadName_local (by rw [a.sc]; exact hk) (show cenv.scope.names.lookup x = some .local by rw [a.sc]; exact hl) a.ns hm h) hd
/-- what is still there -/
theorem Ask.step (a : Ask X scope P s1 cenv s2 m2) {s3 : Shared} (k : Keeps s2 s3) : Ask X scope P s1 cenv s3 m2 := by
  obtain ⟨h', tk, rfl, hk⟩ := k
  exact ⟨a.sc, a.gl, a.bl, a.ce, a.ns.keeps hk, fun b o hb e => hk b o (a.kp b o hb e), a.tb⟩
theorem Ask.mod (a : Ask X scope P s1 cenv s2 m2) (I : Inv X pins σ H s1) (gP : mainGlobals ≠ P) : s2.heap.Ns cenv.globals X.mg := by
  rw [a.gl, I.ok.glob]
  exact (I.mod.glob.keeps I.bk).at' fun o e => a.kp _ o gP e
/-- a module's name -/
theorem glob_name {x : Str} {u : Value} {p : Pos} (a : Ask X scope P s1 cenv s2 m2) (I : Inv X pins σ H s1) (gP : mainGlobals ≠ P) (hk : scope.kind = .function) (hl : scope.names.lookup x = some .globalImplicit) (hm : X.mg x = some u) (h : Q u s2) (hd : (x == ("__debug__" : Str)) = false := by decide) :
    wpAny (model X.prog X.w) B (eval (.Name x p) cenv) Q Er s2 :=
  Calls.Name_function_global (by rw [a.sc]; exact hk) (show cenv.scope.names.lookup x = some .globalImplicit by rw [a.sc]; exact hl) (Calls.loadGlobal_global (a.mod I gP) hm h) hd
/-- a built-in name -/
theorem blt_name {x : Str} {u : Value} {p : Pos} (a : Ask X scope P s1 cenv s2 m2) (I : Inv X pins σ H s1) (gP : mainGlobals ≠ P) (hk : scope.kind = .function) (hl : scope.names.lookup x = some .globalImplicit) (hm : X.mg x = none) (hv : bootBuiltins x = some u) (h : Q u s2)
    (hn : x ≠ "__name__" := by decide) (hd : (x == ("__debug__" : Str)) = false := by decide) : wpAny (model X.prog X.w) B (eval (.Name x p) cenv) Q Er s2 := by
  obtain ⟨mb, h1, h2⟩ := I.mod.blt
  have h3 := h1.keeps I.bk
  have nP : builtinsNs ≠ P := fun z => by
    obtain ⟨ps, hps⟩ := a.tb
    obtain ⟨o, es, ep, ho, hdd, _⟩ := h3
    rw [z, hps] at ho
    cases ho
    cases hdd
  have h4 : s2.heap.Ns cenv.builtins mb := by
    rw [a.bl]
    exact h3.at' fun o e => a.kp _ o nP e
  exact Calls.Name_function_global (by rw [a.sc]; exact hk) (show cenv.scope.names.lookup x = some .globalImplicit by rw [a.sc]; exact hl) (Calls.loadGlobal_builtin (a.mod I gP) hm h4 ((h2 x hn).trans hv) h) hd
/-- a captured name of the def: it stands in the def's slot i -/
theorem free_name {y : Str} {i : Nat} {v : V} {p : Pos} (a : Ask X scope P s1 cenv s2 m2) (I : Inv X pins σ H s1) (hk : scope.kind = .function) (hl : scope.names.lookup y = some .free) (hN : X.N[i]? = some y) (hc : X.env.scope.names.lookup y = some .cell) (hσ : σ[i]? = some (some v))
    (h : ∀ u, RelV v u → Q u s2) (hd : (y == ("__debug__" : Str)) = false := by decide) (hcd : (y == ("__classdict__" : Str)) = false := by decide) : wpAny (model X.prog X.w) B (eval (.Name y p) cenv) Q Er s2 := by
  obtain ⟨m, hn, hlk⟩ := I.loc
  obtain ⟨u, ru, lk⟩ := hlk i y v hN hσ (.inr (.inl hc))
  rcases lk with ⟨k, _⟩ | ⟨_, c, hcl, hcell⟩
  · have k2 : X.env.scope.names.lookup y = some .local := k
    rw [hc] at k2
    cases k2
  · obtain ⟨o, ho, hdt⟩ := hcell
    have ncP : c ≠ P := fun z => by
      obtain ⟨ps, hps⟩ := a.tb
      rw [z, hps] at ho
      cases ho
      cases hdt
    have mem : (y, (X.env.cells.lookup y).getD 0) ∈ cenv.cells := by
      rw [a.ce]
      exact cloFrom_has (PySem.mem_of_lookup hl)
    have lkc : cenv.cells.lookup y = some c := by
      cases e : cenv.cells.lookup y with
      | none =>
        have := List.lookup_eq_none_iff.mp e _ mem
        simp at this
      | some c' =>
        have h1 := PySem.mem_of_lookup e
        rw [a.ce] at h1
        rcases cloFrom_mem h1 with z | ⟨_, z⟩
        · cases z
        · rw [z, hcl]
          rfl
    refine wpAny_Name (wpAny_loadName_free (by rw [a.sc]; exact hk) (show cenv.scope.names.lookup y = some .free by rw [a.sc]; exact hl) lkc ⟨o, a.kp _ o ncP ho, hdt⟩ (h u ru) hcd) hd
end
/-- x in G, G a text of the module -/
def inG (z : Str) : V → V
  | .str a => .bl (a.cps.toList.all fun c => decide (c ∈ z.cps.toList))
  | v => v
theorem elt_inG {X : Cx} {scope : Scope} {P : Addr} {x gn : Str} {z : Str} {t : Tok} {p1 p2 p3 : Pos} (gP : mainGlobals ≠ P) (hk : scope.kind = .function) (hl : scope.names.lookup x = some .local) (hg : scope.names.lookup gn = some .globalImplicit) (hm : X.mg gn = some (.str z t))
    (hd : (x == ("__debug__" : Str)) = false := by decide) (hd2 : (gn == ("__debug__" : Str)) = false := by decide) :
    Elt1 X scope P x (.Compare (.Name x p1) [.In] [.Name gn p2] p3) (fun _ v => ∃ c, v = .str ⟨#[c]⟩) (fun _ v => inG z v) := by
  intro pins σ H s1 cenv B Er s2 m2 v u I a hB hx rv hp
  obtain ⟨c, rfl⟩ := hp
  obtain ⟨t', rfl⟩ := rv
  refine wpAny_Compare1 (own_name a hk hl hx (glob_name a I gP hk hg hm ?_ hd2) hd)
  refine PyProof.Rows.in_str ⟨?_, keeps_refl _⟩
  show Value.bool _ = Value.bool _
  rw [PySem.StrLaws.found_one z c]
  simp
def add2 : V → V → V
  | .int i, .int j => .int (i + j)
  | v, _ => v
def sub2 : V → V → V
  | .int i, .int j => .int (i - j)
  | v, _ => v
def le2 : V → V → V
  | .int i, .int j => .bl (decide (i ≤ j))
  | v, _ => v
def min2 : V → V → V
  | .int i, .int j => .int (if j < i then j else i)
  | v, _ => v
/-- x * y, y a captured name in the slot i -/
def mulAt (i : Nat) (σ : L2.St) : V → V
  | .int a => (match σ[i]? with
    | some (some (.int b)) => .int (a * b)
    | _ => .int a)
  | v => v
theorem elt_mul {X : Cx} {scope : Scope} {P : Addr} {x y : Str} {i : Nat} {p1 p2 p3 : Pos} (hk : scope.kind = .function) (hl : scope.names.lookup x = some .local) (hf : scope.names.lookup y = some .free) (hN : X.N[i]? = some y) (hc : X.env.scope.names.lookup y = some .cell)
    (hd : (x == ("__debug__" : Str)) = false := by decide) (hd2 : (y == ("__debug__" : Str)) = false := by decide) (hcd : (y == ("__classdict__" : Str)) = false := by decide) :
    Elt1 X scope P x (.BinOp (.Name x p1) .Mult (.Name y p2) p3) (fun σ v => ∃ a b : Int, v = .int a ∧ σ[i]? = some (some (.int b)) ∧ CMul a b) (fun σ v => mulAt i σ v) := by
  intro pins σ H s1 cenv B Er s2 m2 v u I a hB hx rv hp
  obtain ⟨m, n, rfl, hσ, hm⟩ := hp
  obtain ⟨t, rfl⟩ := rv
  refine wpAny_BinOp (own_name a hk hl hx (free_name a I hk hf hN hc hσ (fun z rz => ?_) hd2 hcd) hd)
  obtain ⟨t', rfl⟩ := rz
  refine mul_int ⟨?_, keeps_tok _ _⟩ hm.ok
  have e : mulAt i σ (V.int m) = V.int (m * n) := by
    unfold mulAt
    rw [hσ]
  show RelV (mulAt i σ (V.int m)) _
  rw [e]
  exact ⟨_, rfl⟩
def Ints2 (v w : V) : Prop := ∃ i j : Int, v = .int i ∧ w = .int j
section
variable {X : Cx} {scope : Scope} {P : Addr} {xa xb : Str} {p1 p2 p3 p4 : Pos} (hk : scope.kind = .function) (hl : scope.names.lookup xa = some .local) (hl2 : scope.names.lookup xb = some .local)
    (hd : (xa == ("__debug__" : Str)) = false := by decide) (hd2 : (xb == ("__debug__" : Str)) = false := by decide)
include hk hl hl2 hd hd2
theorem elt_add : Elt2 X scope P xa xb (.BinOp (.Name xa p1) .Add (.Name xb p2) p3) (fun _ v w => Ints2 v w) (fun _ v w => add2 v w) := by
  intro pins σ H s1 cenv B Er s2 m2 v w u z I a hB hx hy rv rw' hp
  obtain ⟨i, j, rfl, rfl⟩ := hp
  obtain ⟨t, rfl⟩ := rv
  obtain ⟨t', rfl⟩ := rw'
  exact wpAny_BinOp (own_name a hk hl hx (own_name a hk hl2 hy (add_int ⟨⟨_, rfl⟩, keeps_tok _ _⟩) hd2) hd)
theorem elt_sub : Elt2 X scope P xa xb (.BinOp (.Name xa p1) .Sub (.Name xb p2) p3) (fun _ v w => Ints2 v w) (fun _ v w => sub2 v w) := by
  intro pins σ H s1 cenv B Er s2 m2 v w u z I a hB hx hy rv rw' hp
  obtain ⟨i, j, rfl, rfl⟩ := hp
  obtain ⟨t, rfl⟩ := rv
  obtain ⟨t', rfl⟩ := rw'
  exact wpAny_BinOp (own_name a hk hl hx (own_name a hk hl2 hy (sub_int ⟨⟨_, rfl⟩, keeps_tok _ _⟩) hd2) hd)
theorem elt_le : Elt2 X scope P xa xb (.Compare (.Name xa p1) [.LtE] [.Name xb p2] p3) (fun _ v w => Ints2 v w) (fun _ v w => le2 v w) := by
  intro pins σ H s1 cenv B Er s2 m2 v w u z I a hB hx hy rv rw' hp
  obtain ⟨i, j, rfl, rfl⟩ := hp
  obtain ⟨t, rfl⟩ := rv
  obtain ⟨t', rfl⟩ := rw'
  exact wpAny_Compare1 (own_name a hk hl hx (own_name a hk hl2 hy (le_int ⟨rfl, keeps_refl _⟩) hd2) hd)
theorem elt_min (gP : mainGlobals ≠ P) (hg : scope.names.lookup ("min" : Str) = some .globalImplicit) (hm : X.mg "min" = none) :
    Elt2 X scope P xa xb (.Call (.Name "min" p1) [.Name xa p2, .Name xb p3] [] p4) (fun _ v w => Ints2 v w) (fun _ v w => min2 v w) := by
  intro pins σ H s1 cenv B Er s2 m2 v w u z I a hB hx hy rv rw' hp
  obtain ⟨i, j, rfl, rfl⟩ := hp
  obtain ⟨t, rfl⟩ := rv
  obtain ⟨t', rfl⟩ := rw'
  refine wpAny_Call_Name_kw (blt_name (u := .builtin "min") a I gP hk hg hm (by decide +kernel) ?_)
  refine PyProof.Rows.callWith_builtin1 ?_ rfl rfl
  refine PyProof.Rows.args_cons (own_name a hk hl hx ?_ hd) rfl
  refine PyProof.Rows.args_cons (own_name a hk hl2 hy ?_ hd2) rfl
  refine PyProof.Rows.args_nil ?_
  refine min_two_ints hB fun h' tk kp => ⟨?_, ⟨h', tk, rfl, kp⟩⟩
  show ∃ t0, _ = Value.int (if j < i then j else i) t0
  by_cases hj : j < i
  · rw [if_pos hj, if_pos hj]
    exact ⟨_, rfl⟩
  · rw [if_neg hj, if_neg hj]
    exact ⟨_, rfl⟩
end
end GX

namespace My
open PySem PySem.Spec PyProof.Rows L2 GX GxR
/-! heaps -/
/-- all that was tracked outside of S is as it was -/
def Kp (S : List Addr) (H H' : Hp) : Prop := ∀ x o, x ∉ S → H x = some o → H' x = some o
theorem Kp.refl (S : List Addr) (H : Hp) : Kp S H H := fun _ _ _ h => h
theorem Kp.trans {S : List Addr} {H H1 H2 : Hp} (a : Kp S H H1) (b : Kp S H1 H2) : Kp S H H2 := fun x o n h => b x o n (a x o n h)
theorem Kp.mono {S T : List Addr} {H H' : Hp} (a : Kp S H H') (h : ∀ x ∈ S, x ∈ T) : Kp T H H' := fun x o n e => a x o (fun z => n (h x z)) e
theorem Same.kp {H H' : Hp} (S : List Addr) (a : Same H H') : Kp S H H' := fun x o _ h => a x o h
theorem Kp.seq {K : PySem.W.Frag} {S : List Addr} {H H' : Hp} {a : Addr} {xs : List V} (e : Kp S H H') (h : SqL K H a xs) (n : a ∉ S) : SqL K H' a xs := by
  rcases h with (h | ⟨o, h⟩) | h
  · exact .inl (.inl (e _ _ n h))
  · exact .inl (.inr ⟨o, e _ _ n h⟩)
  · exact .inr h
theorem kp_upd {S : List Addr} {H : Hp} {p : Addr} {o : HO} (h : p ∈ S) : Kp S H (upd H p o) := fun b x n e => by
  rw [upd_ne (fun z => n (by rw [z]; exact h))]
  exact e
theorem same_upd {H : Hp} {p : Addr} {o : HO} (h : H p = none) : Same H (upd H p o) := fun b x e => by
  rw [upd_ne (ne_of_none e h)]
  exact e
theorem iteJ {c A B R : Prop} [Decidable c] (h1 : c → R → A) (h2 : ¬ c → R → B) (r : R) : if c then A else B := by
  by_cases h : c
  · rw [if_pos h]
    exact h1 h r
  · rw [if_neg h]
    exact h2 h r
/-- the built-in names that the text uses -/
structure Txt (mg : Str → Option Value) : Prop where
  len : mg "len" = none
  abs : mg "abs" = none
  isi : mg "isinstance" = none
  lst : mg "list" = none
  tup : mg "tuple" = none
  zip : mg "zip" = none
  all : mg "all" = none
  str : mg "str" = none
  int : mg "int" = none
  bool : mg "bool" = none
  max : mg "max" = none
  min : mg "min" = none
  range : mg "range" = none
/-- a drawing box: what is left of its digits, its mixed number, how often it was asked (at most c) -/
def BoxV (xs : List V) (c : Int) : Prop := ∃ d m t : Int, xs = [.int d, .int m, .int t] ∧ 0 ≤ d ∧ 0 ≤ m ∧ m < 2147483629 ∧ 0 ≤ t ∧ t ≤ c
def BoxAt (H : Hp) (b : Addr) (c : Int) : Prop := ∃ xs, H b = some (.lst xs) ∧ BoxV xs c
def spBox (K : PySem.W.Frag) : Sp := fun vs H Q _ => ∃ (a : Addr) (ns : List Int) (k : Nat), vs = [.ref a, .int (k : Int)] ∧ SqL K H a (ns.map V.int) ∧ k ≤ 1000 ∧
  ∀ p xs, H p = none → BoxV xs 0 → Q (.ref p) (upd H p (.lst xs))
def spTake : Sp := fun vs H Q _ => ∃ (b : Addr) (c many : Int), vs = [.ref b, .int many] ∧ BoxAt H b c ∧ 0 < many ∧ many < 1073741824 ∧ c ≤ 1000000000 ∧
  ∀ r H', 0 ≤ r → r < many → Kp [b] H H' → BoxAt H' b (c + 1) → Q (.int r) H'
theorem walk_zipT {K : PySem.W.Frag} {a b : Addr} {xs ys : List V} {n : Nat} (hn : n = min xs.length ys.length) : Walk (RZ.ItzT K a b) n (fun H => SqT K H a xs ∧ SqT K H b ys) (YPair (fun i => xs[i]?) (fun i => ys[i]?)) := by
  subst hn
  refine ⟨fun i _ hi q => ?_, fun _ q => ⟨xs, ys, q.1, q.2, by omega⟩, fun i H v H' _ q y => ?_⟩
  · have h1 : i < xs.length := by omega
    have h2 : i < ys.length := by omega
    exact ⟨xs, ys, xs[i], ys[i], q.1, q.2, by simp [h1], by simp [h2]⟩
  · obtain ⟨T, x, z, h1, h2, h3, h4, h5⟩ := y
    exact ⟨T, x, z, h1, h2, h3, h4 xs q.1, h5 ys q.2⟩
/-! alike -/
def Leaf (x y : V) : Prop := (∃ b, x = .bl b ∧ y = .bl b) ∨ (∃ i, x = .int i ∧ y = .int i) ∨ (∃ z, x = .str z ∧ y = .str z) ∨ (x = .non ∧ y = .non)
def Al (H : Hp) : Nat → V → V → Prop
  | 0, x, y => Leaf x y
  | n + 1, x, y => Leaf x y ∨ ∃ (a b : Addr) (xs ys : List V), x = .ref a ∧ y = .ref b ∧ ((H a = some (.lst xs) ∧ H b = some (.lst ys)) ∨ (H a = some (.tup xs) ∧ H b = some (.tup ys))) ∧ xs.length = ys.length ∧ xs.length < 100000 ∧
      ∀ (i : Nat) (x y : V), xs[i]? = some x → ys[i]? = some y → Al H n x y
theorem Al.leaf {H : Hp} {x y : V} (h : Leaf x y) : ∀ n, Al H n x y
  | 0 => h
  | _ + 1 => .inl h
theorem Al.same {H H' : Hp} (e : Same H H') : ∀ (n : Nat) (x y : V), Al H n x y → Al H' n x y
  | 0, _, _, h => h
  | n + 1, x, y, h => by
    rcases h with h | ⟨a, b, xs, ys, e1, e2, h, hl, hl2, k⟩
    · exact .inl h
    · refine .inr ⟨a, b, xs, ys, e1, e2, ?_, hl, hl2, fun i x y h1 h2 => Al.same e n x y (k i x y h1 h2)⟩
      rcases h with ⟨h1, h2⟩ | ⟨h1, h2⟩
      · exact .inl ⟨e _ _ h1, e _ _ h2⟩
      · exact .inr ⟨e _ _ h1, e _ _ h2⟩
theorem kany {K : PySem.W.Frag} {t : String} {b1 b2 : Bool} (h1 : kitB t "list" = some b1) (h2 : kitB t "tuple" = some b2) : PySem.W.kitAny K (.type t) [.type "list", .type "tuple"] = some (b1 || b2) := by
  unfold PySem.W.kitAny
  rw [kit_ty h1]
  cases b1 with
  | true => rfl
  | false =>
    show PySem.W.kitAny K (.type t) [.type "tuple"] = _
    unfold PySem.W.kitAny
    rw [kit_ty h2]
    cases b2 <;> rfl
theorem pairT : Paired ClsV [V.ty "list", V.ty "tuple"] [Value.type "list", Value.type "tuple"] := .cons (.ty _) (.cons (.ty _) .nil)
def spAlike (n : Nat) : Sp := fun vs H Q _ => ∃ x y : V, vs = [x, y] ∧ Al H n x y ∧ ∀ H', Same H H' → Q (.bl true) H'
section
variable {X : Cx}
theorem pe_isT {e : Expr} {te : TE} {p1 p2 p3 p4 p5 : Pos} {kk : Nat} (T : Txt X.mg) (g1 : Gl X "isinstance") (g2 : Gl X "list") (g3 : Gl X "tuple") (he : PE X e te)
    (h1 : starEach [e, .Tuple [.Name "list" p2, .Name "tuple" p3] kk p4] X.env = (false, eval e X.env) :: starEach [.Tuple [.Name "list" p2, .Name "tuple" p3] kk p4] X.env := by rfl) :
    PE X (.Call (.Name "isinstance" p1) [e, .Tuple [.Name "list" p2, .Name "tuple" p3] kk p4] [] p5) (tCB (rIsiT X.K) (tCons te (tCons (tTup (tCons (tC (.ty "list")) (tCons (tC (.ty "tuple")) tNil))) tNil))) :=
  pe_callB call_isiT g1 T.isi (by decide +kernel) (pa_cons he (pa_cons (pe_tup (pa_cons (pe_bltn g2 T.lst (by decide +kernel) rfl) (pa_cons (pe_bltn g3 T.tup (by decide +kernel) rfl) pa_nil))) pa_nil) h1) (by decide) (by decide) h1
theorem pe_isi {e : Expr} {te : TE} {x : Str} {c : String} {p1 p2 p5 : Pos} (T : Txt X.mg) (g1 : Gl X "isinstance") (g2 : Gl X x) (m2 : X.mg x = none) (b2 : bootBuiltins x = some (.type c)) (he : PE X e te)
    (hn : x ≠ "__name__" := by decide) (hd : (x == ("__debug__" : Str)) = false := by decide)
    (h1 : starEach [e, .Name x p2] X.env = (false, eval e X.env) :: starEach [.Name x p2] X.env := by rfl) :
    PE X (.Call (.Name "isinstance" p1) [e, .Name x p2] [] p5) (tCB (rIsi X.K) (tCons te (tCons (tC (.ty c)) tNil))) :=
  pe_callB call_isi g1 T.isi (by decide +kernel) (pa_cons he (pa_cons (pe_bltn g2 m2 b2 rfl hn hd) pa_nil) h1) (by decide) (by decide) h1
theorem bt_list : bootBuiltins "list" = some (.type "list") := by decide +kernel
theorem bt_tuple : bootBuiltins "tuple" = some (.type "tuple") := by decide +kernel
theorem bt_str : bootBuiltins "str" = some (.type "str") := by decide +kernel
theorem bt_int : bootBuiltins "int" = some (.type "int") := by decide +kernel
theorem bt_bool : bootBuiltins "bool" = some (.type "bool") := by decide +kernel
end
theorem kB1 : kitB "int" "list" = some false := by decide +kernel
theorem kB2 : kitB "int" "tuple" = some false := by decide +kernel
theorem kB3 : kitB "bool" "list" = some false := by decide +kernel
theorem kB4 : kitB "bool" "tuple" = some false := by decide +kernel
theorem kB5 : kitB "str" "list" = some false := by decide +kernel
theorem kB6 : kitB "str" "tuple" = some false := by decide +kernel
theorem kB7 : kitB "NoneType" "list" = some false := by decide +kernel
theorem kB8 : kitB "NoneType" "tuple" = some false := by decide +kernel
theorem kB9 : kitB "list" "list" = some true := by decide +kernel
theorem kB10 : kitB "list" "tuple" = some false := by decide +kernel
theorem kB11 : kitB "tuple" "list" = some false := by decide +kernel
theorem kB12 : kitB "tuple" "tuple" = some true := by decide +kernel
theorem BoxAt.same {H H' : Hp} {b : Addr} {c : Int} (e : Same H H') (h : BoxAt H b c) : BoxAt H' b c := by
  obtain ⟨xs, h1, h2⟩ := h
  exact ⟨xs, e _ _ h1, h2⟩
theorem BoxAt.kp {S : List Addr} {H H' : Hp} {b : Addr} {c : Int} (e : Kp S H H') (n : b ∉ S) (h : BoxAt H b c) : BoxAt H' b c := by
  obtain ⟨xs, h1, h2⟩ := h
  exact ⟨xs, e _ _ n h1, h2⟩
/-- the boxes of a script: new lists, no two of them one, at D the list of them -/
structure Boxes (H H' : Hp) (D : Addr) (bs : List Addr) : Prop where
  same : Same H H'
  lst : H' D = some (.lst (bs.map V.ref))
  box : ∀ b ∈ bs, BoxAt H' b 0
  new : ∀ b ∈ bs, H b = none
  nd : bs.Nodup
  no : D ∉ bs
  nD : H D = none
def spCells (K : PySem.W.Frag) : Sp := fun vs H Q _ => ∃ (a : Addr) (ns : List Int), vs = [.ref a] ∧ SqL K H a (ns.map V.int) ∧ ns.length ≤ 63 ∧ ∀ H' D bs, Boxes H H' D bs → bs.length ≤ 63 → Q (.ref D) H'
/-- a def whose code object stands at c -/
structure FunC (K : PySem.W.Frag) (x qual : Str) (st : Stmt) (f : Addr) (fd : FuncData) (c : Addr) : Prop where
  ex : ∃ (oc : Value) (od : Option Addr) (kV doc pm : Value) (an : Option Addr) (ct : Value) (osl : Array (Option Value)),
    fd = PySem.W.fnOf x qual (defArgs st) (defBody st) (defScope st) .none kV doc pm an (.ref c) ct ∧ K.lookup f = some ⟨oc, od, .func fd, osl⟩ ∧ PySem.W.codeIn K (.ref c) qual = true
  kp : PySem.W.keepIn K (.ref f) = true
theorem FunC.fn {K : PySem.W.Frag} {x qual : Str} {st : Stmt} {f c : Addr} {fd : FuncData} (F : FunC K x qual st f fd c) : Fun K x qual st f fd := by
  obtain ⟨⟨oc, od, kV, doc, pm, an, ct, osl, e, l, h⟩, k⟩ := F
  exact ⟨⟨oc, od, kV, doc, pm, an, .ref c, ct, osl, e, l, h⟩, k⟩
section
variable {P : Program} {w : World} {K : PySem.W.Frag} {mg : Str → Option Value} {base : Heap}
theorem FunC.ok {x qual : Str} {st : Stmt} {f c : Addr} {fd : FuncData} {N ps : List Str} {k : Nat} {sp : Sp} (F : FunC K x qual st f fd c) (S : FnScope N ps (defScope st)) (len : ∀ vs H Q E, sp vs H Q E → vs.length = ps.length)
    (hbody : ∀ (A : Around) (outer : List Env) (s : Shared) (H : Hp) (vs : List V) (Q : VK) (E : XK), Room k (A.deeper (envOfC qual (defScope st) s.heap.objs.size f (.ref c))) → sp vs H Q E →
      ∃ t, PSs (cxOf CX0 P w K mg base N qual (defScope st) f (.ref c) A outer s H E).nox (defBody st) t ∧ t { nx := fun _ H' => Q .non H', rt := Q } (start N vs) H) :
    FnOk P w K mg base CX0 (k + 1) f fd ps sp := by
  obtain ⟨oc, od, kV, doc, pm, an, ct, osl, rfl, lk, hcd⟩ := F.ex
  refine fn_of lk hcd S len fun A outer s H vs Q E hr hsp => ?_
  obtain ⟨t, h1, h2⟩ := hbody A outer s H vs Q E hr hsp
  exact ⟨t, h1.nox, h2⟩
/-- what a generator expression's scope is checked for, where it captures nothing -/
def genC (scope : Scope) (x : Str) : Bool :=
  decide (scope.kind = .function) && decide (scope.isCoroutine = false) && scope.names.all (fun y => decide (y.2 ≠ .cell) && decide (y.2 ≠ .free)) && decide (scope.names.lookup (".0" : Str) = some NameKind.local) && decide (scope.names.lookup x = some NameKind.local)
theorem genS_of {sc scope : Scope} {x : Str} (h : genC scope x = true) : GenV sc scope x := by
  unfold genC at h
  simp only [Bool.and_eq_true, decide_eq_true_eq, List.all_eq_true] at h
  obtain ⟨⟨⟨⟨h1, h2⟩, h3⟩, h4⟩, h5⟩ := h
  exact ⟨h1, h2, fun y hy => (h3 y hy).1, h4, h5, fun y hy e => absurd e (h3 y hy).2⟩
/-- .. and where it captures names of the def -/
def genCF (sc scope : Scope) (x : Str) : Bool :=
  decide (scope.kind = .function) && decide (scope.isCoroutine = false) && scope.names.all (fun y => decide (y.2 ≠ .cell) && (decide (y.2 ≠ .free) || decide (sc.names.lookup y.1 = some .cell))) && decide (scope.names.lookup (".0" : Str) = some NameKind.local) && decide (scope.names.lookup x = some NameKind.local)
theorem genF_of {sc scope : Scope} {x : Str} (h : genCF sc scope x = true) : GenV sc scope x := by
  unfold genCF at h
  simp only [Bool.and_eq_true, Bool.or_eq_true, decide_eq_true_eq, List.all_eq_true] at h
  obtain ⟨⟨⟨⟨h1, h2⟩, h3⟩, h4⟩, h5⟩ := h
  refine ⟨h1, h2, fun y hy => (h3 y hy).1, h4, h5, fun y hy e => ?_⟩
  rcases (h3 y hy).2 with z | z
  · exact absurd e z
  · exact .inl z
end
/-- between two turns of the law -/
structure Good (T D : Addr) (bs : List Addr) (i : Nat) (H : Hp) : Prop where
  tab : TabG H T
  lst : H D = some (.lst (bs.map V.ref))
  box : ∀ (j : Nat) (b : Addr), i ≤ j → bs[j]? = some b → BoxAt H b 0
theorem TabG.same {H H' : Hp} {T : Addr} (e : Same H H') (h : TabG H T) : TabG H' T := by
  obtain ⟨ps, h1, h2⟩ := h
  exact ⟨ps, e _ _ h1, h2⟩
theorem TabG.kp {S : List Addr} {H H' : Hp} {T : Addr} (e : Kp S H H') (n : T ∉ S) (h : TabG H T) : TabG H' T := by
  obtain ⟨ps, h1, h2⟩ := h
  exact ⟨ps, e _ _ n h1, h2⟩
theorem tab_ne {H : Hp} {T b : Addr} {o : HO} (h : TabG H T) (e : H b = some o) (n : ∀ ps, o ≠ .tbl ps) : b ≠ T := fun z => by
  obtain ⟨ps, h1, _⟩ := h
  rw [z, h1] at e
  exact n ps (Option.some.inj e).symm
theorem tab_nb {H : Hp} {T b : Addr} {c : Int} (h : TabG H T) (B : BoxAt H b c) : b ≠ T := by
  obtain ⟨xs, h1, _⟩ := B
  exact tab_ne h h1 fun ps z => by cases z
theorem Good.same {T D : Addr} {bs : List Addr} {i : Nat} {H H' : Hp} (g : Good T D bs i H) (e : Same H H') : Good T D bs i H' :=
  ⟨TabG.same e g.tab, e _ _ g.lst, fun j b h1 h2 => (g.box j b h1 h2).same e⟩
theorem Good.kpT {T D : Addr} {bs : List Addr} {i : Nat} {H H' : Hp} (g : Good T D bs i H) (e : Kp [T] H H') (h : TabG H' T) : Good T D bs i H' := by
  refine ⟨h, e _ _ (fun z => ?_) g.lst, fun j b h1 h2 => (g.box j b h1 h2).kp e fun z => ?_⟩
  · exact tab_ne g.tab g.lst (fun ps z => by cases z) (List.mem_singleton.mp z)
  · exact tab_nb g.tab (g.box j b h1 h2) (List.mem_singleton.mp z)
theorem Good.kpb {T D b : Addr} {bs : List Addr} {i : Nat} {H H' : Hp} {c : Int} (g : Good T D bs (i + 1) H) (B : BoxAt H b c) (hb : bs[i]? = some b) (nd : bs.Nodup) (no : D ∉ bs) (e : Kp [b] H H') : Good T D bs (i + 1) H' := by
  refine ⟨TabG.kp e (fun z => tab_nb g.tab B (List.mem_singleton.mp z).symm) g.tab, e _ _ (fun z => no (by rw [List.mem_singleton.mp z]; exact List.mem_of_getElem? hb)) g.lst, fun j b' h1 h2 => (g.box j b' h1 h2).kp e fun z => ?_⟩
  obtain ⟨q1, e1⟩ := List.getElem?_eq_some_iff.mp hb
  obtain ⟨q2, e2⟩ := List.getElem?_eq_some_iff.mp h2
  exact List.pairwise_iff_getElem.mp nd i j q1 q2 (by omega) (by rw [e1, e2]; exact (List.mem_singleton.mp z).symm)
theorem al_list {H : Hp} {p q : Addr} {xs ys : List V} (h1 : H p = some (.lst xs)) (h2 : H q = some (.lst ys)) (hl : xs.length = ys.length) (hs : xs.length < 100000) (k : ∀ (i : Nat) (x y : V), xs[i]? = some x → ys[i]? = some y → Leaf x y) : Al H 1 (.ref p) (.ref q) :=
  .inr ⟨p, q, xs, ys, rfl, rfl, .inl ⟨h1, h2⟩, hl, hs, fun i x y a b => k i x y a b⟩
/-- the end of a law that reaches generator expressions: the head's own words of the top go on to the promise -/
theorem walk_tabs {l : PySem.W.OpenLaw} {n k : Nat} {q : Program} {loose : List Str} {XP : (Str → Option Value) → Heap → Prop} {YP : World → Heap → Prop} {d : DefRec} {K : Params → PySem.W.Frag} {x : Str}
    (hn : l.most = some n) (hn2 : n ≤ sizeLine) (hdf : d.params.defaults = []) (hr : Room k callerA) (hY : ∀ (w : World) (h : Heap), YP w h → (K w.params).In h)
    (F : ∀ (w : World) (mg mb : Str → Option Value) (mean : ExcName → Option Value) (fa : Addr) (h : Heap), PyProof.Rows.Top q (PySem.W.looseW q loose) mean mg mb h → (K w.params).In h → mg d.name = some (.ref fa) → LamX.LawAtS l w (K w.params) CX0 k n x mg fa h) :
    PySem.W.WalkO q loose XP YP l.row.toRowW d [] (fun f vs => PySem.call f vs) := by
  refine Att.attach_callB hn hdf fun w s0 s1 mg mb fa o pm cd doc a vs ns G Y ho hd hcd hmg hobj hints hlen hbits hg => ?_
  have KX := hY w _ Y
  obtain ⟨fd, cs, sp, h1, h2, h3, h4, h5, h6⟩ := F w mg mb _ fa _ G.T KX hmg
  exact LamX.law_callTs KX G.T.g G.T.b G.T.builtins G.T.nolimit hg h1 h2 h3 G.T.bmain hobj hints (Nat.le_trans hlen hn2) hr h6 h4 (fun H hH hS => h5 H a ns hlen hbits hH hS) fun H e s' z => z
theorem tab_at {p : Program} {loose : List Str} {mean : ExcName → Option Value} {mg mb : Str → Option Value} {h : Heap} {K : PySem.W.Frag} {x : Str} {c T : Addr} (Z : PyProof.Rows.Top p loose mean mg mb h) (X : K.In h)
    (hr : ((recsOf p).any fun e => e.name == x) = true) (ht : PySem.W.tabIn K x = some (c, T)) : PySem.W.CodeHd h c T ∧ h.get? T = some { cls := .none, data := .fields #[] } := by
  cases e : (recsOf p).find? (fun e => e.name == x) with
  | none =>
    obtain ⟨d, hd, hx⟩ := List.any_eq_true.mp hr
    exact absurd hx (List.find?_eq_none.mp e d hd)
  | some d => exact PySem.W.tab_of Z X e ht
theorem tab_in {K : PySem.W.Frag} {x : Str} {f c T : Addr} {oc e : Value} {od ed : Option Addr} {fd : FuncData} {sl es : Array (Option Value)} {vs : Array Value} (a : PySem.W.nsIn K mainGlobals x = some (some (.ref f))) (l : K.lookup f = some ⟨oc, od, .func fd, sl⟩) (hc : fd.code = .ref c)
    (u : K.lookup c = some ⟨e, ed, .fields vs, es⟩) (v : vs[11]? = some (.ref T)) : PySem.W.tabIn K x = some (c, T) := by
  unfold PySem.W.tabIn
  simp only [a, l, hc, u, v]
end My

namespace My
open PySem PySem.Spec PyProof.Rows L2 GX GxR
def topS (i : Nat) : Stmt := PySem.Challenge.pw_clusterhall_k04_so_many_times.main.body.getD i (.Pass ⟨0, 0, 0, 0⟩)
abbrev sBox : Stmt := topS 4
abbrev sTake : Stmt := topS 5
abbrev sAlike : Stmt := topS 6
abbrev sCells : Stmt := topS 9
abbrev nA : List Str := ["_law_found", "_law_due", "_law_one", "_law_other"]
abbrev nC : List Str := ["_law_script", "_law_k"]
theorem scBox : FnScope ["_law_script", "_law_k", "_law_cell", "_law_digits"] ["_law_script", "_law_k"] (defScope sBox) := ⟨rfl, rfl, rfl, by decide +kernel, rfl, by decide +kernel, by decide +kernel⟩
theorem scTake : FnScope ["_law_box_here", "_law_many", "_law_found", "_law_once"] ["_law_box_here", "_law_many"] (defScope sTake) := ⟨rfl, rfl, rfl, by decide +kernel, rfl, by decide +kernel, by decide +kernel⟩
theorem scAlike : FnScope nA ["_law_found", "_law_due"] (defScope sAlike) := ⟨rfl, rfl, rfl, by decide +kernel, rfl, by decide +kernel, by decide +kernel⟩
theorem scCells : FnScope nC ["_law_script"] (defScope sCells) := ⟨rfl, rfl, rfl, by decide +kernel, rfl, by decide +kernel, by decide +kernel⟩
section
variable {P : Program} {w : World} {K : PySem.W.Frag} {mg : Str → Option Value} {base : Heap}
theorem ok_box {f : Addr} {fd : FuncData} {k : Nat} (F : Fun K "_law_box" "_law_box" sBox f fd) (T : Txt mg) : FnOk P w K mg base CX0 (k + 1) f fd ["_law_script", "_law_k"] (spBox K) := by
  refine F.ok scBox (fun vs H Q E h => ?_) (fun cdv A outer s H vs Q E hr h => ?_)
  · obtain ⟨a, ns, k, rfl, _⟩ := h
    rfl
  · obtain ⟨a, ns, k, rfl, hS, hk, q⟩ := h
    refine ⟨_, pss_cons (ps_set (i := 2) scBox.nd rfl (.inl rfl) (pe_ifExp (pt_cmpR op_lt (pv 1) (pe_callB call_len_seq (by rfl) T.len PySem.boot_len (pa_cons (pv 0) pa_nil)) (nomark _)) (pe_ix ix_list (pv 0) (pv 1) (fun _ _ => rfl)) pe_int))
      (pss_cons (ps_set (i := 3) scBox.nd rfl (.inl rfl) (pe_ifExp (pt_cmpR op_ge (pe_callB call_abs (by rfl) T.abs (by decide +kernel) (pa_cons (pv 2) pa_nil)) (pe_op op_pow pe_int pe_int) (nomark _)) (pe_callB call_abs (by rfl) T.abs (by decide +kernel) (pa_cons (pv 2) pa_nil)) pe_int))
      (pss_one (ps_ret (pe_lst (pa_cons (pv 3) (pa_cons (pe_op op_mod (pe_op op_mul (pe_op op_add (pe_op op_add (pe_op op_mod (pv 2) pe_int) (pe_op op_mul pe_int (pv 1))) pe_int) pe_int) pe_int) (pa_cons pe_int pa_nil))))))), ?_⟩
    obtain ⟨cell, hcell⟩ : ∃ cell : Int, (k < ns.length → atI (ns.map V.int) (k : Int) = some (.int cell)) ∧ (¬ k < ns.length → cell = 0) := by
      by_cases hk : k < ns.length
      · exact ⟨ns[k], fun _ => atI_nat (by rw [List.getElem?_map, List.getElem?_eq_getElem hk]; rfl), fun z => absurd hk z⟩
      · exact ⟨0, fun z => absurd z hk, fun _ => rfl⟩
    refine ⟨_, rfl, _, rfl, a, _, rfl, .inl hS, _, _, rfl, rfl, _, rfl, iteJ (fun e r => ⟨_, rfl, _, rfl, a, _, _, .int cell, rfl, rfl, hS, hcell.1 ?_, r⟩) (fun e r => ?_) ?_⟩
    · have e1 := of_decide_eq_true e
      rw [List.length_map] at e1
      omega
    · have e1 : ¬ ((k : Int) < ((ns.map V.int).length : Int)) := fun z => e (decide_eq_true z)
      rw [List.length_map] at e1
      have e2 : cell = 0 := hcell.2 (by omega)
      rw [e2] at r
      exact r
    · refine ⟨_, rfl, _, rfl, 10, 18, rfl, rfl, ⟨by decide, by decide, by decide⟩, _, _, rfl, rfl, _, rfl, ite2 (fun e => ⟨_, rfl, _, rfl, ?_⟩) (fun e => ?_)⟩
      all_goals
        have b1 : 0 ≤ cell % 2147483647 := Int.emod_nonneg _ (by decide)
        have b2 : cell % 2147483647 < 2147483647 := Int.emod_lt_of_pos _ (by decide)
        refine ⟨_, rfl, _, rfl, cell, 2147483647, rfl, rfl, (by show (0 : Int) < 2147483647; decide), _, rfl, 7919, (k : Int), rfl, rfl, .inl ⟨by decide, by decide⟩, _, _, rfl, rfl, _, _, rfl, rfl, _, 48271, rfl, rfl, .inr ⟨by decide, by decide⟩, _, 2147483629, rfl, rfl, (by show (0 : Int) < 2147483629; decide), by show 3 ≤ sizeLine; decide, fun p hp => q p _ hp ⟨_, _, _, rfl, ?_, Int.emod_nonneg _ (by decide), Int.emod_lt_of_pos _ (by decide), Int.le_refl _, Int.le_refl _⟩⟩
        first
          | exact Int.le_refl _
          | (split <;> omega)
theorem ok_take {f : Addr} {fd : FuncData} {k : Nat} (F : Fun K "_law_take" "_law_take" sTake f fd) : FnOk P w K mg base CX0 (k + 1) f fd ["_law_box_here", "_law_many"] spTake := by
  refine F.ok scTake (fun vs H Q E h => ?_) (fun cdv A outer s H vs Q E hr h => ?_)
  · obtain ⟨b, c, many, rfl, _⟩ := h
    rfl
  · obtain ⟨b, c, many, rfl, ⟨xs, hb, d, m, t, rfl, hd, hm, hm2, ht, htc⟩, hmany, hmany2, hc, q⟩ := h
    refine ⟨_, pss_cons (ps_if (pt_cmpR op_gt (pe_ix ix_list (pv 0) pe_int (fun _ _ => rfl)) pe_int (nomark _))
        (pss_cons (ps_set (i := 2) scTake.nd rfl (.inl rfl) (pe_op op_mod (pe_ix ix_list (pv 0) pe_int (fun _ _ => rfl)) (pv 1)))
        (pss_cons (ps_asg (pe_op op_fdiv (pe_ix ix_list (pv 0) pe_int (fun _ _ => rfl)) (pv 1)) (pg_sub (pv 0) pe_int set_list))
        (pss_one (ps_ret (pv 2))))) pss_nil)
      (pss_cons (ps_asg (pe_op op_add (pe_ix ix_list (pv 0) pe_int (fun _ _ => rfl)) pe_int) (pg_sub (pv 0) pe_int set_list))
      (pss_cons (ps_set (i := 3) scTake.nd rfl (.inl rfl) (pe_op op_mod (pe_op op_mul (pe_op op_add (pe_ix ix_list (pv 0) pe_int (fun _ _ => rfl)) (pe_op op_mul pe_int (pe_ix ix_list (pv 0) pe_int (fun _ _ => rfl)))) (pe_op op_add pe_int (pe_ix ix_list (pv 0) pe_int (fun _ _ => rfl)))) pe_int))
      (pss_cons (ps_asg (pe_op op_mod (pe_op op_add (pe_op op_mul (pv 3) (pe_op op_add (pe_op op_mod (pv 3) pe_int) pe_int)) (pe_ix ix_list (pv 0) pe_int (fun _ _ => rfl))) pe_int) (pg_sub (pv 0) pe_int set_list))
      (pss_one (ps_ret (pe_op op_mod (pe_op op_fdiv (pe_op op_mod (pe_op op_mul (pe_ix ix_list (pv 0) pe_int (fun _ _ => rfl)) (pe_op op_add (pe_op op_mod (pe_ix ix_list (pv 0) pe_int (fun _ _ => rfl)) pe_int) pe_int)) pe_int) pe_int) (pv 1))))))), ?_⟩
    refine ⟨.ref b, rfl, b, _, 0, .int d, rfl, rfl, SqL.of hb, rfl, _, 0, rfl, rfl, _, rfl, ite2 (fun e => ?_) (fun e => ?_)⟩
    · have e1 : 0 < d := of_decide_eq_true e
      refine ⟨.ref b, rfl, b, _, 0, .int d, rfl, rfl, SqL.of hb, rfl, .int many, rfl, d, many, rfl, rfl, hmany, ?_⟩
      refine ⟨.ref b, rfl, b, _, 0, .int d, rfl, rfl, SqL.of hb, rfl, .int many, rfl, d, many, rfl, rfl, ⟨hmany, hmany2⟩, .ref b, rfl, b, _, 0, 0, rfl, rfl, hb, rfl, _, rfl, ?_⟩
      refine q _ _ (Int.emod_nonneg _ (by omega)) (Int.emod_lt_of_pos _ hmany) (kp_upd (List.mem_singleton.mpr rfl)) ⟨_, upd_same, d / many, m, t, rfl, Int.ediv_nonneg hd (by omega), hm, hm2, ht, by omega⟩
    · have u1 : upd H b (.lst [.int d, .int m, .int (t + 1)]) b = some (.lst [.int d, .int m, .int (t + 1)]) := upd_same
      refine ⟨.ref b, rfl, b, _, 2, .int t, rfl, rfl, SqL.of hb, rfl, t, 1, rfl, rfl, .ref b, rfl, b, _, 2, 2, rfl, rfl, hb, rfl, ?_⟩
      refine ⟨.ref b, rfl, b, _, 1, .int m, rfl, rfl, SqL.of u1, rfl, .ref b, rfl, b, _, 2, .int (t + 1), rfl, rfl, SqL.of u1, rfl, 39373, t + 1, rfl, rfl, .inl ⟨by decide, by decide⟩, m, _, rfl, rfl,
        .ref b, rfl, b, _, 2, .int (t + 1), rfl, rfl, SqL.of u1, rfl, 48271, t + 1, rfl, rfl, _, _, rfl, rfl, .inr ⟨by omega, by omega⟩, _, 2147483647, rfl, rfl, (by show (0 : Int) < 2147483647; decide), ?_⟩
      obtain ⟨once, hon⟩ : ∃ once : Int, (m + 39373 * (t + 1)) * (48271 + (t + 1)) % 2147483647 = once := ⟨_, rfl⟩
      have o1 : 0 ≤ once % 40009 := Int.emod_nonneg _ (by decide)
      have o2 : once % 40009 < 40009 := Int.emod_lt_of_pos _ (by decide)
      obtain ⟨m3, hm3⟩ : ∃ m3 : Int, (once * (once % 40009 + 7) + (t + 1)) % 2147483629 = m3 := ⟨_, rfl⟩
      have m1 : 0 ≤ m3 := by rw [← hm3]; exact Int.emod_nonneg _ (by decide)
      have m2 : m3 < 2147483629 := by rw [← hm3]; exact Int.emod_lt_of_pos _ (by decide)
      have hon' : V.int ((m + 39373 * (t + 1)) * (48271 + (t + 1)) % 2147483647) = .int once := congrArg V.int hon
      have hm3' : V.int ((once * (once % 40009 + 7) + (t + 1)) % 2147483629) = .int m3 := congrArg V.int hm3
      have u2 : upd (upd H b (.lst [.int d, .int m, .int (t + 1)])) b (.lst [.int d, .int ((once * (once % 40009 + 7) + (t + 1)) % 2147483629), .int (t + 1)]) b = some (.lst [.int d, .int m3, .int (t + 1)]) := by rw [hm3', upd_same]
      refine ⟨_, rfl, _, rfl, once, 40009, hon', rfl, (by show (0 : Int) < 40009; decide), _, 7, rfl, rfl, once, _, hon', rfl, .inr ⟨by omega, by omega⟩, .ref b, rfl, b, _, 2, .int (t + 1), rfl, rfl, SqL.of u1, rfl, _, _, rfl, rfl, _, 2147483629, rfl, rfl, (by show (0 : Int) < 2147483629; decide),
        .ref b, rfl, b, _, 1, 1, rfl, rfl, u1, rfl, ?_⟩
      refine ⟨.ref b, rfl, b, _, 1, .int m3, rfl, rfl, SqL.of u2, rfl, .ref b, rfl, b, _, 1, .int m3, rfl, rfl, SqL.of u2, rfl, m3, 1009, rfl, rfl, (by show (0 : Int) < 1009; decide), _, 3, rfl, rfl, m3, _, rfl, rfl, .inl ⟨by omega, by omega⟩, _, 998244353, rfl, rfl, (by show (0 : Int) < 998244353; decide), _, 7, rfl, rfl, ⟨by decide, by decide⟩, .int many, rfl, _, many, rfl, rfl, hmany, ?_⟩
      exact q _ _ (Int.emod_nonneg _ (by omega)) (Int.emod_lt_of_pos _ hmany) ((kp_upd (List.mem_singleton.mpr rfl)).trans (kp_upd (List.mem_singleton.mpr rfl))) ⟨_, u2, d, m3, t + 1, rfl, hd, m1, m2, by omega, by omega⟩
theorem ok_alike0 {f : Addr} {fd : FuncData} {k : Nat} (F : Fun K "_law_alike" "_law_alike" sAlike f fd) (T : Txt mg) : FnOk P w K mg base CX0 (k + 1) f fd ["_law_found", "_law_due"] (spAlike 0) := by
  refine F.ok scAlike (fun vs H Q E h => ?_) (fun cdv A outer s H vs Q E hr h => ?_)
  · obtain ⟨x, y, rfl, _⟩ := h
    rfl
  · obtain ⟨x, y, rfl, h, q⟩ := h
    refine ⟨_, pss_cons (ps_if (pt_val (pe_isT T (by rfl) (by rfl) (by rfl) (pv 1)))
        (pss_cons ps_never (pss_one ps_never)) pss_nil)
      (pss_cons (ps_if (PW.pt (pw_or (pt_cmpR op_isN (pv 1) pe_non (nomark _)) (pw_or1 (pt_val (pe_isi T (by rfl) (by rfl) T.str bt_str (pv 1))))))
        (pss_one (ps_ret (pe_and (pe_cmpR op_eq (pv 0) (pv 1) (nomark _)) (pe_one (pe_cmpR op_eq
          (pe_isi T (by rfl) (by rfl) T.str bt_str (pv 0))
          (pe_isi T (by rfl) (by rfl) T.str bt_str (pv 1)) (nomark _))))))
        pss_nil)
      (pss_one (ps_ret (pe_and (pe_isi T (by rfl) (by rfl) T.int bt_int (pv 0))
        (pe_and (pe_cmpR op_eq
          (pe_isi T (by rfl) (by rfl) T.bool bt_bool (pv 0))
          (pe_isi T (by rfl) (by rfl) T.bool bt_bool (pv 1)) (nomark _))
        (pe_one (pe_cmpR op_eq (pv 0) (pv 1) (nomark _)))))))), ?_⟩
    rcases h with ⟨b, rfl, rfl⟩ | ⟨b, rfl, rfl⟩ | ⟨b, rfl, rfl⟩ | ⟨rfl, rfl⟩
    · have tx : ∀ H, TyX K H (.bl b) (.type "bool") := fun H => .base (.bl b)
      refine ⟨_, rfl, (by show 2 ≤ sizeLine; decide), fun tp ntp => ⟨_, tp, _, _, _, _, rfl, upd_same, pairT, tx _, kany kB3 kB4, false, rfl, iteF ?_⟩⟩
      refine ⟨_, rfl, rfl, false, rfl, iteF ?_⟩
      refine ⟨_, rfl, _, _, _, _, _, rfl, .ty _, tx _, kit_ty (r := false) (by decide +kernel), false, rfl, iteF ?_⟩
      refine ⟨_, rfl, _, _, _, _, _, rfl, .ty _, tx _, kit_ty (r := true) (by decide +kernel), true, rfl, iteT ?_⟩
      refine ⟨_, rfl, _, _, _, _, _, rfl, .ty _, tx _, kit_ty (r := true) (by decide +kernel), _, rfl, _, _, _, _, _, rfl, .ty _, tx _, kit_ty (r := true) (by decide +kernel), rfl, true, rfl, iteT ?_⟩
      refine ⟨_, rfl, _, rfl, rfl, ?_⟩
      rw [decide_eq_true rfl]
      exact q _ (same_upd ntp)
    · have tx : ∀ H, TyX K H (.int b) (.type "int") := fun H => .base (.int b)
      refine ⟨_, rfl, (by show 2 ≤ sizeLine; decide), fun tp ntp => ⟨_, tp, _, _, _, _, rfl, upd_same, pairT, tx _, kany kB1 kB2, false, rfl, iteF ?_⟩⟩
      refine ⟨_, rfl, rfl, false, rfl, iteF ?_⟩
      refine ⟨_, rfl, _, _, _, _, _, rfl, .ty _, tx _, kit_ty (r := false) (by decide +kernel), false, rfl, iteF ?_⟩
      refine ⟨_, rfl, _, _, _, _, _, rfl, .ty _, tx _, kit_ty (r := true) (by decide +kernel), true, rfl, iteT ?_⟩
      refine ⟨_, rfl, _, _, _, _, _, rfl, .ty _, tx _, kit_ty (r := false) (by decide +kernel), _, rfl, _, _, _, _, _, rfl, .ty _, tx _, kit_ty (r := false) (by decide +kernel), rfl, true, rfl, iteT ?_⟩
      refine ⟨_, rfl, _, rfl, rfl, ?_⟩
      rw [decide_eq_true rfl]
      exact q _ (same_upd ntp)
    · have tx : ∀ H, TyX K H (.str b) (.type "str") := fun H => .base (.str b)
      refine ⟨_, rfl, (by show 2 ≤ sizeLine; decide), fun tp ntp => ⟨_, tp, _, _, _, _, rfl, upd_same, pairT, tx _, kany kB5 kB6, false, rfl, iteF ?_⟩⟩
      refine ⟨_, rfl, rfl, false, rfl, iteF ?_⟩
      refine ⟨_, rfl, _, _, _, _, _, rfl, .ty _, tx _, kit_ty (r := true) (by decide +kernel), true, rfl, iteT ?_⟩
      refine ⟨_, rfl, _, rfl, rfl, true, congrArg V.bl (decide_eq_true rfl), iteT ?_⟩
      refine ⟨_, rfl, _, _, _, _, _, rfl, .ty _, tx _, kit_ty (r := true) (by decide +kernel), _, rfl, _, _, _, _, _, rfl, .ty _, tx _, kit_ty (r := true) (by decide +kernel), rfl, ?_⟩
      exact q _ (same_upd ntp)
    · have tx : ∀ H, TyX K H .non (.type "NoneType") := fun H => .base .non
      refine ⟨_, rfl, (by show 2 ≤ sizeLine; decide), fun tp ntp => ⟨_, tp, _, _, _, _, rfl, upd_same, pairT, tx _, kany kB7 kB8, false, rfl, iteF ?_⟩⟩
      refine ⟨_, rfl, rfl, true, rfl, iteT ?_⟩
      refine ⟨_, rfl, _, rfl, rfl, true, rfl, iteT ?_⟩
      refine ⟨_, rfl, _, _, _, _, _, rfl, .ty _, tx _, kit_ty (r := false) (by decide +kernel), _, rfl, _, _, _, _, _, rfl, .ty _, tx _, kit_ty (r := false) (by decide +kernel), rfl, ?_⟩
      exact q _ (same_upd ntp)
theorem ok_alikeS {f : Addr} {fd : FuncData} {n : Nat} (F : Fun K "_law_alike" "_law_alike" sAlike f fd) (T : Txt mg) (mgA : mg "_law_alike" = some (.ref f)) (bA : Binds K fd ["_law_found", "_law_due"] [])
    (G : FnOk P w K mg base CX0 (n + 1) f fd ["_law_found", "_law_due"] (spAlike n)) : FnOk P w K mg base CX0 (n + 1 + 1) f fd ["_law_found", "_law_due"] (spAlike (n + 1)) := by
  have G0 : FnOk P w K mg base CX0 (n + 1 + 1) f fd ["_law_found", "_law_due"] (spAlike 0) := ok_alike0 F T
  refine F.ok scAlike (fun vs H Q E h => ?_) (fun cdv A outer s H vs Q E hr h => ?_)
  · obtain ⟨x, y, rfl, _⟩ := h
    rfl
  · obtain ⟨x, y, rfl, h, q⟩ := h
    refine ⟨_, pss_cons (ps_if (pt_val (pe_isT T (by rfl) (by rfl) (by rfl) (pv 1)))
        (pss_cons (ps_if (PW.pt (pw_or (pt_not (pt_val (pe_isT T (by rfl) (by rfl) (by rfl) (pv 0)))) (pw_or1 (pt_cmpR op_ne (pe_isi T (by rfl) (by rfl) T.lst bt_list (pv 0)) (pe_isi T (by rfl) (by rfl) T.lst bt_list (pv 1)) (nomark _)))))
          (pss_one (ps_ret pe_bl)) pss_nil)
        (pss_one (ps_ret (pe_and (pe_cmpR op_eq (pe_callB call_len_seq (by rfl) T.len PySem.boot_len (pa_cons (pv 0) pa_nil)) (pe_callB call_len_seq (by rfl) T.len PySem.boot_len (pa_cons (pv 1) pa_nil)) (nomark _))
          (pe_one (pe_callB (cr_all rfl) (by rfl) T.all (by decide +kernel) (pa_cons
            (pe_lc (own := [("_law_one", 2), ("_law_other", 3)]) (g := gTup K 2 (gCons (gName 2) (gCons (gName 3) gNil))) (tt := tYes) rfl scAlike.nd (RZ.pi_zipA (by rfl) T.zip (pa_cons (pv 0) (pa_cons (pv 1) pa_nil))) (blkOk_by (own := [("_law_one", 2), ("_law_other", 3)]) (N := nA) (sc := defScope sAlike) (by decide +kernel))
              (fun _ _ _ _ _ => pg_tup rfl (pgs_cons (pg_name (i := 2) scAlike.nd rfl (Or.inl rfl)) (pgs_cons (pg_name (i := 3) scAlike.nd rfl (Or.inl rfl)) pgs_nil))) (fun _ _ _ _ _ => pts_nil)
              (fun _ _ _ _ _ => pe_call G hr (by rfl) mgA F.kp bA .nil pass0 (pa_cons (pv 2) (pa_cons (pv 3) pa_nil)))) pa_nil)))))))
        pss_nil)
      (pss_cons (ps_if (PW.pt (pw_or (pt_cmpR op_isN (pv 1) pe_non (nomark _)) (pw_or1 (pt_val (pe_isi T (by rfl) (by rfl) T.str bt_str (pv 1))))))
        (pss_one (ps_ret (pe_and (pe_cmpR op_eq (pv 0) (pv 1) (nomark _)) (pe_one (pe_cmpR op_eq
          (pe_isi T (by rfl) (by rfl) T.str bt_str (pv 0))
          (pe_isi T (by rfl) (by rfl) T.str bt_str (pv 1)) (nomark _))))))
        pss_nil)
      (pss_one (ps_ret (pe_and (pe_isi T (by rfl) (by rfl) T.int bt_int (pv 0))
        (pe_and (pe_cmpR op_eq
          (pe_isi T (by rfl) (by rfl) T.bool bt_bool (pv 0))
          (pe_isi T (by rfl) (by rfl) T.bool bt_bool (pv 1)) (nomark _))
        (pe_one (pe_cmpR op_eq (pv 0) (pv 1) (nomark _)))))))), ?_⟩
    rcases h with h | ⟨a, b, xs, ys, rfl, rfl, h, hl, hl2, hk⟩
    · rcases h with ⟨b, rfl, rfl⟩ | ⟨b, rfl, rfl⟩ | ⟨b, rfl, rfl⟩ | ⟨rfl, rfl⟩
      · have tx : ∀ H, TyX K H (.bl b) (.type "bool") := fun H => .base (.bl b)
        refine ⟨_, rfl, (by show 2 ≤ sizeLine; decide), fun tp ntp => ⟨_, tp, _, _, _, _, rfl, upd_same, pairT, tx _, kany kB3 kB4, false, rfl, iteF ?_⟩⟩
        refine ⟨_, rfl, rfl, false, rfl, iteF ?_⟩
        refine ⟨_, rfl, _, _, _, _, _, rfl, .ty _, tx _, kit_ty (r := false) (by decide +kernel), false, rfl, iteF ?_⟩
        refine ⟨_, rfl, _, _, _, _, _, rfl, .ty _, tx _, kit_ty (r := true) (by decide +kernel), true, rfl, iteT ?_⟩
        refine ⟨_, rfl, _, _, _, _, _, rfl, .ty _, tx _, kit_ty (r := true) (by decide +kernel), _, rfl, _, _, _, _, _, rfl, .ty _, tx _, kit_ty (r := true) (by decide +kernel), rfl, true, rfl, iteT ?_⟩
        refine ⟨_, rfl, _, rfl, rfl, ?_⟩
        rw [decide_eq_true rfl]
        exact q _ (same_upd ntp)
      · have tx : ∀ H, TyX K H (.int b) (.type "int") := fun H => .base (.int b)
        refine ⟨_, rfl, (by show 2 ≤ sizeLine; decide), fun tp ntp => ⟨_, tp, _, _, _, _, rfl, upd_same, pairT, tx _, kany kB1 kB2, false, rfl, iteF ?_⟩⟩
        refine ⟨_, rfl, rfl, false, rfl, iteF ?_⟩
        refine ⟨_, rfl, _, _, _, _, _, rfl, .ty _, tx _, kit_ty (r := false) (by decide +kernel), false, rfl, iteF ?_⟩
        refine ⟨_, rfl, _, _, _, _, _, rfl, .ty _, tx _, kit_ty (r := true) (by decide +kernel), true, rfl, iteT ?_⟩
        refine ⟨_, rfl, _, _, _, _, _, rfl, .ty _, tx _, kit_ty (r := false) (by decide +kernel), _, rfl, _, _, _, _, _, rfl, .ty _, tx _, kit_ty (r := false) (by decide +kernel), rfl, true, rfl, iteT ?_⟩
        refine ⟨_, rfl, _, rfl, rfl, ?_⟩
        rw [decide_eq_true rfl]
        exact q _ (same_upd ntp)
      · have tx : ∀ H, TyX K H (.str b) (.type "str") := fun H => .base (.str b)
        refine ⟨_, rfl, (by show 2 ≤ sizeLine; decide), fun tp ntp => ⟨_, tp, _, _, _, _, rfl, upd_same, pairT, tx _, kany kB5 kB6, false, rfl, iteF ?_⟩⟩
        refine ⟨_, rfl, rfl, false, rfl, iteF ?_⟩
        refine ⟨_, rfl, _, _, _, _, _, rfl, .ty _, tx _, kit_ty (r := true) (by decide +kernel), true, rfl, iteT ?_⟩
        refine ⟨_, rfl, _, rfl, rfl, true, congrArg V.bl (decide_eq_true rfl), iteT ?_⟩
        refine ⟨_, rfl, _, _, _, _, _, rfl, .ty _, tx _, kit_ty (r := true) (by decide +kernel), _, rfl, _, _, _, _, _, rfl, .ty _, tx _, kit_ty (r := true) (by decide +kernel), rfl, ?_⟩
        exact q _ (same_upd ntp)
      · have tx : ∀ H, TyX K H .non (.type "NoneType") := fun H => .base .non
        refine ⟨_, rfl, (by show 2 ≤ sizeLine; decide), fun tp ntp => ⟨_, tp, _, _, _, _, rfl, upd_same, pairT, tx _, kany kB7 kB8, false, rfl, iteF ?_⟩⟩
        refine ⟨_, rfl, rfl, true, rfl, iteT ?_⟩
        refine ⟨_, rfl, _, rfl, rfl, true, rfl, iteT ?_⟩
        refine ⟨_, rfl, _, _, _, _, _, rfl, .ty _, tx _, kit_ty (r := false) (by decide +kernel), _, rfl, _, _, _, _, _, rfl, .ty _, tx _, kit_ty (r := false) (by decide +kernel), rfl, ?_⟩
        exact q _ (same_upd ntp)
    rcases h with ⟨h1, h2⟩ | ⟨h1, h2⟩
    · have sq : ∀ {H' : Hp} {p : Addr} {zs : List V}, H' p = some (.lst zs) → SqL K H' p zs := fun h => SqL.of h
      have ta : ∀ {H' : Hp}, Same H H' → TyX K H' (.ref a) (.type "list") := fun e => .base (.lst (e _ _ h1))
      have tb : ∀ {H' : Hp}, Same H H' → TyX K H' (.ref b) (.type "list") := fun e => .base (.lst (e _ _ h2))
      refine ⟨_, rfl, (by show 2 ≤ sizeLine; decide), fun tp ntp => ⟨_, tp, _, _, _, _, rfl, upd_same, pairT, tb (same_upd ntp), kany kB9 kB10, true, rfl, iteT ?_⟩⟩
      have s1 : Same H (upd H tp (.tup [V.ty "list", V.ty "tuple"])) := same_upd ntp
      refine ⟨_, rfl, (by show 2 ≤ sizeLine; decide), fun tp2 ntp2 => ⟨_, tp2, _, _, _, _, rfl, upd_same, pairT, ta (s1.trans (same_upd ntp2)), kany kB9 kB10, true, rfl, iteF ?_⟩⟩
      have s2 := s1.trans (same_upd (o := .tup [V.ty "list", V.ty "tuple"]) ntp2)
      refine ⟨_, rfl, _, _, _, _, _, rfl, .ty _, ta s2, kit_ty (r := true) (by decide +kernel), _, rfl, _, _, _, _, _, rfl, .ty _, tb s2, kit_ty (r := true) (by decide +kernel), rfl, false, rfl, iteF ?_⟩
      refine ⟨_, rfl, a, xs, rfl, .inl (sq (s2 _ _ h1)), _, rfl, b, ys, rfl, .inl (sq (s2 _ _ h2)), rfl, true, congrArg V.bl (decide_eq_true (by rw [hl])), iteT ?_⟩
      refine ⟨_, rfl, _, rfl, a, b, xs, ys, rfl, .inl ⟨sq (s2 _ _ h1), sq (s2 _ _ h2), fun D nD => lc_it (walk_zip (xs := xs) (ys := ys) rfl) (fun i H' => Same H H' ∧ H' D = some (.lst ((List.replicate i true).map V.bl))) ⟨s2.trans (same_upd nD), upd_same⟩ (fun i H' _ p => ⟨sq (p.1 _ _ h1), sq (p.1 _ _ h2)⟩) (fun i v H3 H4 hi p y => ?_) (fun H3 p => ?_)⟩⟩
      · obtain ⟨T1, x1, x2, rfl, nT, rfl, g1, g2⟩ := y
        obtain ⟨p1, p2⟩ := p
        have s3 : Same H3 (upd H3 T1 (.tup [x1, x2])) := same_upd nT
        have hx := hk i x1 x2 g1 g2
        refine ⟨T1, [x1, x2], rfl, SqT.of upd_same, rfl, x1, [x2], rfl, x2, [], rfl, rfl, rfl, ?_⟩
        refine ⟨x1, rfl, x2, rfl, x1, x2, rfl, Al.same (p1.trans s3) n x1 x2 hx, fun H5 s5 => ⟨_, s5 _ _ (s3 _ _ p2), ?_, ?_, ?_⟩⟩
        · rw [List.length_map, List.length_replicate]
          have hlt : i < 100000 := by
            have := hi
            omega
          exact Nat.lt_of_lt_of_le hlt (by decide)
        · intro z o e
          have nz : z ≠ D := ne_of_none e (s2.free nD)
          rw [upd_ne nz]
          exact s5 _ _ (s3 _ _ (p1 _ _ e))
        · rw [upd_same, List.replicate_succ', List.map_append]
          rfl
      · obtain ⟨p1, p2⟩ := p
        refine ⟨D, _, rfl, SqL.of p2, ?_⟩
        rw [show ((List.replicate (min xs.length ys.length) true).all id) = true by simp]
        exact q _ p1
    · have sq : ∀ {H' : Hp} {p : Addr} {zs : List V}, H' p = some (.tup zs) → SqT K H' p zs := fun h => SqT.of h
      have ta : ∀ {H' : Hp}, Same H H' → TyX K H' (.ref a) (.type "tuple") := fun e => .base (.tup (e _ _ h1))
      have tb : ∀ {H' : Hp}, Same H H' → TyX K H' (.ref b) (.type "tuple") := fun e => .base (.tup (e _ _ h2))
      refine ⟨_, rfl, (by show 2 ≤ sizeLine; decide), fun tp ntp => ⟨_, tp, _, _, _, _, rfl, upd_same, pairT, tb (same_upd ntp), kany kB11 kB12, true, rfl, iteT ?_⟩⟩
      have s1 : Same H (upd H tp (.tup [V.ty "list", V.ty "tuple"])) := same_upd ntp
      refine ⟨_, rfl, (by show 2 ≤ sizeLine; decide), fun tp2 ntp2 => ⟨_, tp2, _, _, _, _, rfl, upd_same, pairT, ta (s1.trans (same_upd ntp2)), kany kB11 kB12, true, rfl, iteF ?_⟩⟩
      have s2 := s1.trans (same_upd (o := .tup [V.ty "list", V.ty "tuple"]) ntp2)
      refine ⟨_, rfl, _, _, _, _, _, rfl, .ty _, ta s2, kit_ty (r := false) (by decide +kernel), _, rfl, _, _, _, _, _, rfl, .ty _, tb s2, kit_ty (r := false) (by decide +kernel), rfl, false, rfl, iteF ?_⟩
      refine ⟨_, rfl, a, xs, rfl, .inr (sq (s2 _ _ h1)), _, rfl, b, ys, rfl, .inr (sq (s2 _ _ h2)), rfl, true, congrArg V.bl (decide_eq_true (by rw [hl])), iteT ?_⟩
      refine ⟨_, rfl, _, rfl, a, b, xs, ys, rfl, .inr ⟨sq (s2 _ _ h1), sq (s2 _ _ h2), fun D nD => lc_it (walk_zipT (xs := xs) (ys := ys) rfl) (fun i H' => Same H H' ∧ H' D = some (.lst ((List.replicate i true).map V.bl))) ⟨s2.trans (same_upd nD), upd_same⟩ (fun i H' _ p => ⟨sq (p.1 _ _ h1), sq (p.1 _ _ h2)⟩) (fun i v H3 H4 hi p y => ?_) (fun H3 p => ?_)⟩⟩
      · obtain ⟨T1, x1, x2, rfl, nT, rfl, g1, g2⟩ := y
        obtain ⟨p1, p2⟩ := p
        have s3 : Same H3 (upd H3 T1 (.tup [x1, x2])) := same_upd nT
        have hx := hk i x1 x2 g1 g2
        refine ⟨T1, [x1, x2], rfl, SqT.of upd_same, rfl, x1, [x2], rfl, x2, [], rfl, rfl, rfl, ?_⟩
        refine ⟨x1, rfl, x2, rfl, x1, x2, rfl, Al.same (p1.trans s3) n x1 x2 hx, fun H5 s5 => ⟨_, s5 _ _ (s3 _ _ p2), ?_, ?_, ?_⟩⟩
        · rw [List.length_map, List.length_replicate]
          have hlt : i < 100000 := by
            have := hi
            omega
          exact Nat.lt_of_lt_of_le hlt (by decide)
        · intro z o e
          have nz : z ≠ D := ne_of_none e (s2.free nD)
          rw [upd_ne nz]
          exact s5 _ _ (s3 _ _ (p1 _ _ e))
        · rw [upd_same, List.replicate_succ', List.map_append]
          rfl
      · obtain ⟨p1, p2⟩ := p
        refine ⟨D, _, rfl, SqL.of p2, ?_⟩
        rw [show ((List.replicate (min xs.length ys.length) true).all id) = true by simp]
        exact q _ p1
theorem ok_cells {f fB : Addr} {fd fdB : FuncData} {k : Nat} (F : Fun K "_law_cells" "_law_cells" sCells f fd) (T : Txt mg) (FB : Fun K "_law_box" "_law_box" sBox fB fdB) (mgB : mg "_law_box" = some (.ref fB)) (bB : Binds K fdB ["_law_script", "_law_k"] [])
    : FnOk P w K mg base CX0 (k + 2) f fd ["_law_script"] (spCells K) := by
  have G : FnOk P w K mg base CX0 (k + 1) fB fdB ["_law_script", "_law_k"] (spBox K) := ok_box FB T
  refine F.ok scCells (fun vs H Q E h => ?_) (fun cdv A outer s H vs Q E hr h => ?_)
  · obtain ⟨a, ns, rfl, _⟩ := h
    rfl
  · obtain ⟨a, ns, rfl, hS, hl, q⟩ := h
    refine ⟨_, pss_one (ps_ret (pe_lc (own := [("_law_k", 1)]) (g := gName 1) (tt := tYes) rfl scCells.nd
      (pi_range1 (by rfl) T.range (pa_cons (pe_callB (call_max2 rfl) (by rfl) T.max (by decide +kernel) (pa_cons pe_int (pa_cons (pe_callB (call_min2 rfl) (by rfl) T.min (by decide +kernel) (pa_cons (pe_callB call_len_seq (by rfl) T.len PySem.boot_len (pa_cons (pv 0) pa_nil)) (pa_cons pe_int pa_nil))) pa_nil))) pa_nil))
      (blkOk_by (own := [("_law_k", 1)]) (N := nC) (sc := defScope sCells) (by decide +kernel))
      (fun _ _ _ _ _ => pg_name (i := 1) scCells.nd rfl (Or.inl rfl)) (fun _ _ _ _ _ => pts_nil)
      (fun _ _ _ _ _ => pe_call G hr (by rfl) mgB FB.kp bB .nil pass0 (pa_cons (pv 0) (pa_cons (pv 1) pa_nil))))), ?_⟩
    obtain ⟨n, hn, hn63⟩ : ∃ n : Nat, (if (if (63 : Int) < ((ns.map V.int).length : Int) then (63 : Int) else ((ns.map V.int).length : Int)) > 1 then (if (63 : Int) < ((ns.map V.int).length : Int) then (63 : Int) else ((ns.map V.int).length : Int)) else 1) = (n : Int) ∧ n ≤ 63 := by
      rw [List.length_map]
      rw [if_neg (show ¬ (63 : Int) < (ns.length : Int) by omega)]
      by_cases h1 : (ns.length : Int) > 1
      · rw [if_pos h1]
        exact ⟨ns.length, rfl, hl⟩
      · rw [if_neg h1]
        exact ⟨1, rfl, by decide⟩
    refine ⟨_, rfl, a, _, rfl, .inl hS, _, 63, rfl, 1, _, rfl, _, rfl, ?_, ?_, fun D nD => ?_⟩
    · rw [hn]
      omega
    · rw [hn]
      omega
    · rw [hn]
      rw [Int.toNat_natCast]
      refine lc_range (lo := 0) (n := n) (fun i H' => ∃ bs, Boxes H H' D bs ∧ bs.length = i) ⟨[], ⟨same_upd nD, upd_same, fun _ h => (nomatch h), fun _ h => (nomatch h), List.nodup_nil, fun h => (nomatch h), nD⟩, rfl⟩ (fun i H3 hi p => ?_) (fun H3 p => ?_)
      · obtain ⟨bs, B, rfl⟩ := p
        refine ⟨rfl, ?_⟩
        refine ⟨_, rfl, _, rfl, a, ns, bs.length, ?_, B.same.seq hS, by omega, fun p xs np hx => ⟨_, same_upd np _ _ B.lst, ?_, bs ++ [p], ?_, ?_⟩⟩
        · rw [Int.zero_add]
          rfl
        · rw [List.length_map]
          exact small1000 (by omega)
        · have npD : p ≠ D := (ne_of_none B.lst np).symm
          have npb : ∀ b ∈ bs, b ≠ p := fun b hb => by
            obtain ⟨ys, h1, _⟩ := B.box b hb
            exact ne_of_none h1 np
          have nbD : ∀ b ∈ bs, b ≠ D := fun b hb z => B.no (by rw [← z]; exact hb)
          refine ⟨fun z o e => ?_, ?_, fun b hb => ?_, fun b hb => ?_, ?_, fun hb => ?_, nD⟩
          · rw [upd_ne (ne_of_none e nD), upd_ne (ne_of_none (B.same _ _ e) np)]
            exact B.same _ _ e
          · rw [upd_same, List.map_append]
            rfl
          · rcases List.mem_append.mp hb with hb | hb
            · obtain ⟨ys, h1, h2⟩ := B.box b hb
              exact ⟨ys, by rw [upd_ne (nbD b hb), upd_ne (npb b hb)]; exact h1, h2⟩
            · cases List.mem_singleton.mp hb
              exact ⟨xs, by rw [upd_ne npD, upd_same], hx⟩
          · rcases List.mem_append.mp hb with hb | hb
            · exact B.new b hb
            · cases List.mem_singleton.mp hb
              exact B.same.free np
          · rw [List.nodup_append]
            exact ⟨B.nd, List.nodup_cons.mpr ⟨fun h => (nomatch h), List.nodup_nil⟩, fun b hb c hc => by
              cases List.mem_singleton.mp hc
              exact npb b hb⟩
          · rcases List.mem_append.mp hb with hb | hb
            · exact B.no hb
            · exact npD (List.mem_singleton.mp hb).symm
        · rw [List.length_append]
          rfl
      · obtain ⟨bs, B, hb⟩ := p
        exact q _ D bs B (by omega)
end
end My

namespace GX
open PySem PySem.Spec PyProof.Rows L2
open AutoSeq1 (wpAny_loadPart')
theorem tuple_once (l : Addr) (items : Array Value) (n : Nat) (dd : Option Addr) (sl : Array (Option Value)) (u : Tok) :
    Meets (Builtin.«tuple.__mul__» ⟨[.ref l, .int 1 u], []⟩) (fun _ R s => s.heap.get? l = some { cls := .type "tuple", dict := dd, data := .seq items n, slots := sl } ∧ R (.ok (.ret (Value.ref l))) s) :=
  .of_wp fun prog w A R s h => by
    obtain ⟨hp, g, d, tk, os⟩ := s
    obtain ⟨hl, h⟩ := h
    have f1 := AutoSeq1.idx_int
    wp_walk using wpAny_loadPart' hl
    exact ⟨_, rfl, h⟩
/-- t * k, k from 1 on: once is the tuple itself -/
def rRepU (K : PySem.W.Frag) : R2 := fun x y H Q => ∃ l k xs, x = .ref l ∧ y = .int k ∧ SqT K H l xs ∧ xs ≠ [] ∧ 1 ≤ k ∧ k ≤ 1000 ∧ xs.length ≤ 1000 ∧
  (k = 1 → Q (.ref l) H) ∧ (k ≠ 1 → ∀ p, H p = none → Q (.ref p) (upd H p (.tup (List.replicate k.toNat xs).flatten)))
theorem op_repU {X : Cx} : OpR X (binaryOp .Mult) (rRepU X.K) := by
  intro pins s σ H x y v u Q I rx ry h
  obtain ⟨l, k, xs, rfl, rfl, hT, hne, h1, h2, hz, q1, q2⟩ := h
  by_cases hk : k = 1
  · subst hk
    cases rx
    obtain ⟨t, rfl⟩ := ry
    obtain ⟨its, r, ⟨⟨cls, dd, data, sl⟩, ho, hc, n, hd⟩, hs⟩ := I.tuple hT
    simp only at hc hd
    subst hc hd
    exact wpAny_binaryOp_repeat_ref (T := "tuple") (U := "int") (by decide) ⟨_, ho, rfl⟩ (fun s' => typeIs_int s' 1 t) noFill_tuple_mul F.fills_int_mul F.slot_int_rmul repeat_tuple F.slot_int_index.lookup
      (call_meets F.slot_int_rmul (typeIs_int s 1 t) F.entry_int_rmul (F.args_int_rmul_2 _ _) (int_rmul_tuple 1 t l its.toArray n dd sl)
        ⟨ho, rfl, ⟨_, ho, rfl⟩, call_meets F.slot_tuple_mul ⟨_, ho, rfl⟩ F.entry_tuple_mul (F.args_tuple_mul_2 _ _) (tuple_once l its.toArray n dd sl t) ⟨ho, ⟨.ref l, H, I, rfl, q1 rfl⟩⟩⟩)
  · exact op_repT pins s σ H _ _ v u Q I rx ry ⟨l, k, xs, rfl, rfl, hT, hne, by omega, h2, hz, q2 hk⟩
end GX

namespace My
open PySem PySem.Spec PyProof.Rows L2 GX GxR
/-- what is known within a turn of a law: the tables of the code objects Ts, the box at b (asked at most c times), the things fs that stay -/
structure Wd (Ts : List Addr) (b : Addr) (c : Int) (fs : List (Addr × HO)) (H : Hp) : Prop where
  tab : ∀ T ∈ Ts, TabG H T
  box : BoxAt H b c
  obj : ∀ f ∈ fs, H f.1 = some f.2
  off : ∀ f ∈ fs, f.1 ≠ b ∧ f.1 ∉ Ts
section
variable {Ts : List Addr} {b : Addr} {c : Int} {fs : List (Addr × HO)} {H H' : Hp}
theorem Wd.nbT (W : Wd Ts b c fs H) {T : Addr} (h : T ∈ Ts) : b ≠ T := tab_nb (W.tab T h) W.box
theorem Wd.same (W : Wd Ts b c fs H) (e : Same H H') : Wd Ts b c fs H' :=
  ⟨fun T h => TabG.same e (W.tab T h), W.box.same e, fun f h => e _ _ (W.obj f h), W.off⟩
theorem Wd.asked (W : Wd Ts b c fs H) {c' : Int} (e : Kp [b] H H') (B : BoxAt H' b c') : Wd Ts b c' fs H' :=
  ⟨fun T h => TabG.kp e (fun z => W.nbT h (List.mem_singleton.mp z).symm) (W.tab T h), B, fun f h => e _ _ (fun z => (W.off f h).1 (List.mem_singleton.mp z)) (W.obj f h), W.off⟩
theorem Wd.grown (W : Wd Ts b c fs H) {T : Addr} (h : T ∈ Ts) (e : Kp [T] H H') (t : TabG H' T) : Wd Ts b c fs H' := by
  refine ⟨fun T' h' => ?_, W.box.kp e fun z => W.nbT h (List.mem_singleton.mp z), fun f hf => e _ _ (fun z => (W.off f hf).2 (by rw [List.mem_singleton.mp z]; exact h)) (W.obj f hf), W.off⟩
  by_cases z : T' = T
  · rw [z]
    exact t
  · exact TabG.kp e (fun q => z (List.mem_singleton.mp q)) (W.tab T' h')
/-- a thing that is new -/
theorem Wd.new {c0 : Int} (W : Wd Ts b c0 fs H) {p : Addr} {o : HO} (n : H p = none) (e : H' p = some o) (W' : Wd Ts b c fs H') : Wd Ts b c ((p, o) :: fs) H' := by
  refine ⟨W'.tab, W'.box, fun f hf => ?_, fun f hf => ?_⟩
  · rcases List.mem_cons.mp hf with z | z
    · rw [z]
      exact e
    · exact W'.obj f z
  · rcases List.mem_cons.mp hf with z | z
    · rw [z]
      refine ⟨fun q => ?_, fun q => ?_⟩
      · obtain ⟨xs, h1, _⟩ := W.box
        exact ne_of_none h1 n (Eq.symm q)
      · obtain ⟨ps, h1, _⟩ := W.tab _ q
        rw [show H p = some (.tbl ps) from h1] at n
        cases n
    · exact W'.off f z
theorem Wd.laid (W : Wd Ts b c fs H) {p : Addr} {o : HO} (n : H p = none) : Wd Ts b c ((p, o) :: fs) (upd H p o) :=
  W.new n upd_same (W.same (same_upd n))
theorem Wd.le (W : Wd Ts b c fs H) {c' : Int} (h : c ≤ c') : Wd Ts b c' fs H := by
  obtain ⟨xs, h1, d, m, t, h2, h3, h4, h5, h6, h7⟩ := W.box
  exact ⟨W.tab, ⟨xs, h1, d, m, t, h2, h3, h4, h5, h6, by omega⟩, W.obj, W.off⟩
end
/-- between two turns, of several tables -/
structure GoodS (Ts : List Addr) (D : Addr) (bs : List Addr) (i : Nat) (H : Hp) : Prop where
  tab : ∀ T ∈ Ts, TabG H T
  lst : H D = some (.lst (bs.map V.ref))
  box : ∀ (j : Nat) (b : Addr), i ≤ j → bs[j]? = some b → BoxAt H b 0
/-- the things that stay within turn i -/
def keptIn (D : Addr) (bs : List Addr) (i : Nat) (H : Hp) : List (Addr × HO) := (D :: bs.drop (i + 1)).map fun a => (a, (H a).getD (.lst []))
theorem GoodS.inn {Ts : List Addr} {D b : Addr} {bs : List Addr} {i : Nat} {H : Hp} (g : GoodS Ts D bs i H) (hb : bs[i]? = some b) (nd : bs.Nodup) (no : D ∉ bs) : Wd Ts b 0 (keptIn D bs i H) H := by
  have B := g.box i b (Nat.le_refl _) hb
  have at_ : ∀ a ∈ D :: bs.drop (i + 1), ∃ xs, H a = some (.lst xs) := fun a ha => by
    rcases List.mem_cons.mp ha with z | z
    · rw [z]
      exact ⟨_, g.lst⟩
    · obtain ⟨j, hj⟩ := List.mem_iff_getElem?.mp z
      rw [List.getElem?_drop] at hj
      obtain ⟨xs, h1, _⟩ := g.box (i + 1 + j) a (by omega) hj
      exact ⟨xs, h1⟩
  refine ⟨g.tab, B, fun f hf => ?_, fun f hf => ?_⟩
  · obtain ⟨a, ha, rfl⟩ := List.mem_map.mp hf
    obtain ⟨xs, h1⟩ := at_ a ha
    show H a = some ((H a).getD (.lst []))
    rw [h1]
    rfl
  · obtain ⟨a, ha, rfl⟩ := List.mem_map.mp hf
    obtain ⟨xs, h1⟩ := at_ a ha
    refine ⟨fun z => ?_, fun z => tab_ne (g.tab a z) h1 (fun ps q => by cases q) rfl⟩
    have z' : a = b := z
    rcases List.mem_cons.mp ha with q | q
    · exact no (by rw [← q, z']; exact List.mem_of_getElem? hb)
    · obtain ⟨j, hj⟩ := List.mem_iff_getElem?.mp q
      rw [List.getElem?_drop] at hj
      obtain ⟨q1, e1⟩ := List.getElem?_eq_some_iff.mp hb
      obtain ⟨q2, e2⟩ := List.getElem?_eq_some_iff.mp hj
      exact List.pairwise_iff_getElem.mp nd i (i + 1 + j) q1 q2 (by omega) (by rw [e1, e2]; exact z'.symm)
theorem GoodS.out {Ts : List Addr} {D b : Addr} {bs : List Addr} {i : Nat} {c : Int} {fs : List (Addr × HO)} {H H' : Hp} (g : GoodS Ts D bs i H) (W : Wd Ts b c fs H') (h : ∀ f ∈ keptIn D bs i H, f ∈ fs) : GoodS Ts D bs (i + 1) H' := by
  have at_ : ∀ a ∈ D :: bs.drop (i + 1), H' a = some ((H a).getD (.lst [])) := fun a ha => W.obj (a, _) (h _ (List.mem_map.mpr ⟨a, ha, rfl⟩))
  refine ⟨W.tab, ?_, fun j b' h1 h2 => ?_⟩
  · have e := at_ D List.mem_cons_self
    rw [g.lst] at e
    exact e
  · have hm : b' ∈ bs.drop (i + 1) := by
      refine List.mem_iff_getElem?.mpr ⟨j - (i + 1), ?_⟩
      rw [List.getElem?_drop, show i + 1 + (j - (i + 1)) = j by omega]
      exact h2
    have e := at_ b' (List.mem_cons_of_mem _ hm)
    obtain ⟨xs, h3, h4⟩ := g.box j b' (by omega) h2
    rw [h3] at e
    exact ⟨xs, e, h4⟩
/-- an amount: numbers from 0 to 10 ** 12 -/
def Amt (ns : List Int) : Prop := ∀ n ∈ ns, 0 ≤ n ∧ n ≤ 1000000000000
def spWide : Sp := fun vs H Q _ => ∃ (b : Addr) (c : Int), vs = [.ref b] ∧ BoxAt H b c ∧ c ≤ 100000000 ∧ ∀ n H', 0 ≤ n → n ≤ 1000000000000 → Kp [b] H H' → BoxAt H' b (c + 6) → Q (.int n) H'
def spAmount : Sp := fun vs H Q _ => ∃ (b : Addr) (c : Int) (k : Nat), vs = [.ref b, .int (k : Int)] ∧ BoxAt H b c ∧ c ≤ 10000000 ∧ k ≤ 100 ∧
  ∀ p ns H', Amt ns → ns.length = k → Kp [b] H H' → BoxAt H' b (c + 600) → H p = none → H' p = some (.tup (ns.map V.int)) → Q (.ref p) H'
/-! two lists, place by place -/
inductive Prs (R : V → V → Prop) : List V → List V → Prop
  | nil : Prs R [] []
  | cons {x y : V} {xs ys : List V} : R x y → Prs R xs ys → Prs R (x :: xs) (y :: ys)
theorem Prs.len {R : V → V → Prop} : ∀ {xs ys : List V}, Prs R xs ys → xs.length = ys.length
  | _, _, .nil => rfl
  | _, _, .cons _ h => congrArg Nat.succ h.len
theorem Prs.get {R : V → V → Prop} : ∀ {xs ys : List V}, Prs R xs ys → ∀ (i : Nat) (x y : V), xs[i]? = some x → ys[i]? = some y → R x y
  | _, _, .nil, _, _, _, h, _ => by simp at h
  | _, _, .cons r h, 0, _, _, h1, h2 => by
    cases h1
    cases h2
    exact r
  | _, _, .cons r h, i + 1, x, y, h1, h2 => h.get i x y h1 h2
theorem Prs.ints {R : V → V → Prop} (r : ∀ i, R (.int i) (.int i)) : ∀ ns : List Int, Prs R (ns.map V.int) (ns.map V.int)
  | [] => .nil
  | n :: ns => .cons (r n) (Prs.ints r ns)
theorem al_int {H : Hp} {n : Nat} (i : Int) : Al H n (.int i) (.int i) := Al.leaf (.inr (.inl ⟨i, rfl, rfl⟩)) n
theorem al_bl {H : Hp} {n : Nat} (b : Bool) : Al H n (.bl b) (.bl b) := Al.leaf (.inl ⟨b, rfl, rfl⟩) n
theorem al_lst {H : Hp} {n : Nat} {p q : Addr} {xs ys : List V} (h1 : H p = some (.lst xs)) (h2 : H q = some (.lst ys)) (hs : xs.length < 100000) (k : Prs (Al H n) xs ys) : Al H (n + 1) (.ref p) (.ref q) :=
  .inr ⟨p, q, xs, ys, rfl, rfl, .inl ⟨h1, h2⟩, k.len, hs, k.get⟩
theorem al_tup {H : Hp} {n : Nat} {p q : Addr} {ns : List Int} (h1 : H p = some (.tup (ns.map V.int))) (h2 : H q = some (.tup (ns.map V.int))) (hs : ns.length < 100000) : Al H (n + 1) (.ref p) (.ref q) :=
  .inr ⟨p, q, _, _, rfl, rfl, .inr ⟨h1, h2⟩, rfl, by rw [List.length_map]; exact hs, (Prs.ints (fun i => al_int i) ns).get⟩
/-! what the amounts come to, number by number -/
def spNothing : Sp := fun vs H Q _ => ∃ k : Nat, vs = [.int (k : Int)] ∧ 1 ≤ k ∧ k ≤ 1000 ∧ ∀ p H', Same H H' → H p = none → H' p = some (.tup ((List.replicate k (0 : Int)).map V.int)) → Q (.ref p) H'
def spZip (K : PySem.W.Frag) (T : Addr) (op : Int → Int → Int) : Sp := fun vs H Q _ => ∃ (a b : Addr) (xs ys : List Int), vs = [.ref a, .ref b] ∧ SqT K H a (xs.map V.int) ∧ SqT K H b (ys.map V.int) ∧ xs.length ≤ 1000 ∧ TabG H T ∧
  ∀ p H', TabG H' T → Kp [T] H H' → H p = none → H' p = some (.tup ((List.zipWith op xs ys).map V.int)) → Q (.ref p) H'
def spZipS (K : PySem.W.Frag) (op : Int → Int → Int) : Sp := fun vs H Q _ => ∃ (a b : Addr) (xs ys : List Int), vs = [.ref a, .ref b] ∧ SqT K H a (xs.map V.int) ∧ SqT K H b (ys.map V.int) ∧ xs.length ≤ 1000 ∧
  ∀ p H', Same H H' → H p = none → H' p = some (.tup ((List.zipWith op xs ys).map V.int)) → Q (.ref p) H'
/-- one that leaves all as it was does so with a table, too -/
theorem zip_tab {K : PySem.W.Frag} {op : Int → Int → Int} (T : Addr) (vs : List V) (H : Hp) (Q : VK) (E : XK) (h : spZip K T op vs H Q E) : spZipS K op vs H Q E := by
  obtain ⟨a, b, xs, ys, e, hX, hY, hl, hT, q⟩ := h
  exact ⟨a, b, xs, ys, e, hX, hY, hl, fun p H' s n h => q p H' (TabG.same s hT) (Same.kp _ s) n h⟩
theorem get_int {xs : List Int} {i : Nat} {v : V} (h : (xs.map V.int)[i]? = some v) : ∃ x, xs[i]? = some x ∧ v = .int x := by
  rw [List.getElem?_map] at h
  cases e : xs[i]? with
  | none => rw [e] at h; cases h
  | some x =>
    rw [e] at h
    exact ⟨x, rfl, (Option.some.inj h).symm⟩
theorem same_putA {H H1 : Hp} {b : Addr} {o : HO} (s : Same H H1) (n : H b = none) : Same H (upd H1 b o) := fun x u e => by
  rw [upd_ne (ne_of_none e n)]
  exact s _ _ e
theorem zip_to {g : V → V → V} {op : Int → Int → Int} (h : ∀ i j, g (.int i) (.int j) = .int (op i j)) : ∀ xs ys : List Int, (((xs.map V.int).zip (ys.map V.int)).map fun v => g v.1 v.2) = (List.zipWith op xs ys).map V.int
  | [], _ => rfl
  | _ :: _, [] => rfl
  | x :: xs, y :: ys => by
    show g (.int x) (.int y) :: (((xs.map V.int).zip (ys.map V.int)).map fun v => g v.1 v.2) = .int (op x y) :: (List.zipWith op xs ys).map V.int
    rw [h, zip_to h xs ys]
theorem zip_ints : ∀ (xs ys : List Int), ∀ v ∈ (xs.map V.int).zip (ys.map V.int), Ints2 v.1 v.2
  | [], _, _, h => by cases h
  | _ :: _, [], _, h => by cases h
  | x :: xs, y :: ys, v, h => by
    rcases List.mem_cons.mp h with e | e
    · rw [e]
      exact ⟨x, y, rfl, rfl⟩
    · exact zip_ints xs ys v e
theorem zip_len {op : Int → Int → Int} (xs ys : List Int) : (List.zipWith op xs ys).length ≤ xs.length := by
  rw [List.length_zipWith]
  omega
theorem rep_flat (k : Nat) (v : V) : (List.replicate k [v]).flatten = List.replicate k v := by
  induction k with
  | zero => rfl
  | succ k ih =>
    rw [List.replicate_succ, List.flatten_cons, ih]
    rfl
theorem kp_of_tabbed {T : Addr} {H H2 : Hp} (h : Tabbed T H H2) : Kp [T] H H2 := fun x o nx e => by
  rw [h.2 x fun z => nx (by rw [z]; exact List.mem_singleton.mpr rfl)]
  exact e
theorem free_of_tabbed {T d : Addr} {H H2 : Hp} (h : Tabbed T H H2) (n : H2 d = none) : H d = none := by
  obtain ⟨⟨ps, h1, _⟩, h2⟩ := h
  by_cases z : d = T
  · rw [z, h1] at n
    cases n
  · rw [← h2 d z]
    exact n
theorem rep_read {K : PySem.W.Frag} {H : Hp} {Q : VK} {t : Addr} {k : Int} {n : Nat} (hk : k = (n : Int)) (h1 : 1 ≤ n) (h2 : n ≤ 1000) (nt : H t = none) (q : ∀ p H', Same H H' → H p = none → H' p = some (.tup ((List.replicate n (0 : Int)).map V.int)) → Q (.ref p) H') :
    rRepU K (.ref t) (.int k) (upd H t (.tup [.int 0])) Q := by
  refine ⟨t, k, [.int 0], rfl, rfl, SqT.of upd_same, by simp, by omega, by omega, by decide, fun z => ?_, fun z p np => ?_⟩
  · have z' : n = 1 := by omega
    subst z'
    exact q t _ (same_upd nt) nt upd_same
  · refine q p _ ((same_upd nt).trans (same_upd np)) ((same_upd nt).free np) ?_
    rw [upd_same, hk, Int.toNat_natCast, rep_flat, List.map_replicate]
theorem at_ints {xs : List Int} {i : Nat} {x : Int} (h : xs[i]? = some x) : atI (xs.map V.int) (0 + (i : Int)) = some (.int x) := by
  rw [Int.zero_add]
  exact atI_nat (by rw [List.getElem?_map, h]; rfl)
theorem zw_take {op : Int → Int → Int} {xs ys : List Int} {i : Nat} {x y : Int} (hx : xs[i]? = some x) (hy : ys[i]? = some y) : (List.zipWith op xs ys).take (i + 1) = (List.zipWith op xs ys).take i ++ [op x y] := by
  rw [List.take_add_one, List.getElem?_zipWith, hx, hy]
  rfl
theorem same_seqT {K : PySem.W.Frag} {H H' : Hp} {a : Addr} {xs : List V} (e : Same H H') (h : SqT K H a xs) : SqT K H' a xs := by
  rcases h with (h | ⟨o, h⟩) | h
  · exact .inl (.inl (e _ _ h))
  · exact .inl (.inr ⟨o, e _ _ h⟩)
  · exact .inr h
theorem Amt.take {ns : List Int} (h : Amt ns) (k : Nat) : Amt (ns.take k) := fun n hn => h n (List.mem_of_mem_take hn)
theorem Amt.drop {ns : List Int} (h : Amt ns) (k : Nat) : Amt (ns.drop k) := fun n hn => h n (List.mem_of_mem_drop hn)
theorem Amt.app {ns ms : List Int} (h : Amt ns) (h' : Amt ms) : Amt (ns ++ ms) := fun n hn => by
  rcases List.mem_append.mp hn with z | z
  · exact h n z
  · exact h' n z
theorem BoxAt.le {H : Hp} {b : Addr} {c c' : Int} (B : BoxAt H b c) (h : c ≤ c') : BoxAt H b c' := by
  obtain ⟨xs, h1, d, m, t, h2, h3, h4, h5, h6, h7⟩ := B
  exact ⟨xs, h1, d, m, t, h2, h3, h4, h5, h6, by omega⟩
theorem box_free {H H' : Hp} {b : Addr} {c : Int} (B : BoxAt H' b c) (k : Kp [b] H H') {x : Addr} (n : H' x = none) : H x = none := by
  cases e : H x with
  | none => rfl
  | some o =>
    by_cases z : x = b
    · obtain ⟨ys, h1, _⟩ := B
      rw [z, h1] at n
      cases n
    · rw [k _ _ (fun q => z (List.mem_singleton.mp q)) e] at n
      cases n
theorem box_ne {H : Hp} {b p : Addr} {c : Int} {xs : List V} (B : BoxAt H b c) (h : H p = some (.tup xs)) : p ∉ [b] := fun z => by
  obtain ⟨ys, h1, _⟩ := B
  rw [← List.mem_singleton.mp z, h] at h1
  cases h1
theorem box_new {H : Hp} {b p : Addr} {c : Int} (B : BoxAt H b c) (h : H p = none) : p ∉ [b] := fun z => by
  obtain ⟨ys, h1, _⟩ := B
  rw [← List.mem_singleton.mp z, h] at h1
  cases h1
end My

namespace My
open PySem PySem.Spec PyProof.Rows L2 GX GxR
abbrev sWide : Stmt := topS 7
abbrev sAmount : Stmt := topS 8
abbrev nM : List Str := ["_law_box_here", "_law_wares", "_law_k"]
theorem scWide : FnScope ["_law_box_here", "_law_some"] ["_law_box_here"] (defScope sWide) := ⟨rfl, rfl, rfl, by decide +kernel, rfl, by decide +kernel, by decide +kernel⟩
theorem scAmount : FnScope nM ["_law_box_here", "_law_wares"] (defScope sAmount) := ⟨rfl, rfl, rfl, by decide +kernel, rfl, by decide +kernel, by decide +kernel⟩
section
variable {P : Program} {w : World} {K : PySem.W.Frag} {mg : Str → Option Value} {base : Heap}
theorem ok_wide {f fT : Addr} {fd fdT : FuncData} {k : Nat} (F : Fun K "_law_wide" "_law_wide" sWide f fd) (T : Txt mg) (FT : Fun K "_law_take" "_law_take" sTake fT fdT) (mgT : mg "_law_take" = some (.ref fT)) (bT : Binds K fdT ["_law_box_here", "_law_many"] [])
    : FnOk P w K mg base CX0 (k + 2) f fd ["_law_box_here"] spWide := by
  have G : FnOk P w K mg base CX0 (k + 1) fT fdT ["_law_box_here", "_law_many"] spTake := ok_take FT
  refine F.ok scWide (fun vs H Q E h => ?_) (fun cdv A outer s H vs Q E hr h => ?_)
  · obtain ⟨b, c, rfl, _⟩ := h
    rfl
  · obtain ⟨b, c, rfl, hB, hc, q⟩ := h
    refine ⟨_, pss_cons (ps_set (i := 1) scWide.nd rfl (.inl rfl) (pe_lst (pa_cons pe_int (pa_cons (pe_call G hr (by rfl) mgT FT.kp bT .nil pass0 (pa_cons (pv 0) (pa_cons pe_int pa_nil)))
          (pa_cons (pe_call G hr (by rfl) mgT FT.kp bT .nil pass0 (pa_cons (pv 0) (pa_cons pe_int pa_nil))) (pa_cons (pe_op op_sub (pe_op op_pow pe_int pe_int) (pe_call G hr (by rfl) mgT FT.kp bT .nil pass0 (pa_cons (pv 0) (pa_cons pe_int pa_nil)))) pa_nil))))))
      (pss_cons (ps_expr (pe_bm PySem.F.plainAttrs_list PySem.F.slot_list_append PySem.F.type_list_append mt_append (pv 1) (pa_cons
          (pe_callB (call_min2 rfl) (by rfl) T.min (by decide +kernel) (pa_cons (pe_op op_pow pe_int pe_int) (pa_cons (pe_op op_add
            (pe_op op_mul (pe_call G hr (by rfl) mgT FT.kp bT .nil pass0 (pa_cons (pv 0) (pa_cons pe_int pa_nil))) (pe_op op_pow pe_int pe_int))
            (pe_call G hr (by rfl) mgT FT.kp bT .nil pass0 (pa_cons (pv 0) (pa_cons (pe_op op_pow pe_int pe_int) pa_nil)))) pa_nil))) pa_nil)))
      (pss_one (ps_ret (pe_ix ix_list (pv 1) (pe_call G hr (by rfl) mgT FT.kp bT .nil pass0 (pa_cons (pv 0) (pa_cons pe_int pa_nil))) (fun _ _ => rfl))))), ?_⟩
    refine ⟨_, rfl, b, c, 10, rfl, hB, by decide, by decide, by omega, fun r1 H1 r10 r11 k1 B1 => ?_⟩
    refine ⟨_, rfl, b, _, 1000, rfl, B1, by decide, by decide, by omega, fun r2 H2 r20 r21 k2 B2 => ?_⟩
    refine ⟨10, 12, rfl, rfl, ⟨by decide, by decide, by decide⟩, _, rfl, b, _, 3, rfl, B2, by decide, by decide, by omega, fun r3 H3 r30 r31 k3 B3 => ⟨_, r3, rfl, rfl, by show 4 ≤ sizeLine; decide, fun p np => ?_⟩⟩
    have npb : p ≠ b := fun z => by
      obtain ⟨xs, h1, _⟩ := B3
      rw [z, h1] at np
      cases np
    have npb' : p ∉ [b] := fun z => npb (List.mem_singleton.mp z)
    have B4 : BoxAt (upd H3 p (.lst [.int 0, .int r1, .int r2, .int ((10 : Int) ^ (12 : Int).toNat - r3)])) b (c + 1 + 1 + 1) := B3.same (same_upd np)
    refine ⟨_, rfl, .inl ⟨rfl, _, SqL.of upd_same⟩, 10, 12, rfl, rfl, ⟨by decide, by decide, by decide⟩, _, rfl, b, _, 1000001, rfl, B4, by decide, by decide, by omega, fun r4 H5 r40 r41 k5 B5 => ?_⟩
    refine ⟨10, 6, rfl, rfl, ⟨by decide, by decide, by decide⟩, r4, _, rfl, rfl, .inl ⟨by omega, by omega⟩, _, rfl, 10, 6, rfl, rfl, ⟨by decide, by decide, by decide⟩, b, _, _, rfl, B5, by decide, by decide, by omega, fun r5 H6 r50 r51 k6 B6 => ?_⟩
    refine ⟨_, r5, rfl, rfl, _, _, rfl, p, _, _, rfl, rfl, k6 _ _ npb' (k5 _ _ npb' upd_same), by show 4 < sizeLine; decide, ?_⟩
    have B7 : ∀ o, BoxAt (upd H6 p o) b (c + 1 + 1 + 1 + 1 + 1) := fun o => by
      obtain ⟨xs, h1, h2⟩ := B6
      exact ⟨xs, by rw [upd_ne npb.symm]; exact h1, h2⟩
    refine ⟨_, rfl, _, rfl, b, _, 5, rfl, B7 _, by decide, by decide, by omega, fun r6 H8 r60 r61 k8 B8 => ?_⟩
    have ten12 : (10 : Int) ^ (12 : Int).toNat = 1000000000000 := by decide
    have ten6 : (10 : Int) ^ (6 : Int).toNat = 1000000 := by decide
    rw [ten12, ten6] at *
    obtain ⟨n, hn, h0, h1⟩ : ∃ n, atI ([V.int 0, .int r1, .int r2, .int (1000000000000 - r3)] ++ [V.int (if r4 * 1000000 + r5 < 1000000000000 then r4 * 1000000 + r5 else 1000000000000)]) r6 = some (.int n) ∧ 0 ≤ n ∧ n ≤ 1000000000000 := by
      have h6 : r6 = 0 ∨ r6 = 1 ∨ r6 = 2 ∨ r6 = 3 ∨ r6 = 4 := by omega
      rcases h6 with z | z | z | z | z
      · rw [z]; exact ⟨_, rfl, by omega, by omega⟩
      · rw [z]; exact ⟨_, rfl, by omega, by omega⟩
      · rw [z]; exact ⟨_, rfl, by omega, by omega⟩
      · rw [z]; exact ⟨_, rfl, by omega, by omega⟩
      · rw [z]; exact ⟨_, rfl, by split <;> omega, by split <;> omega⟩
    refine ⟨p, _, r6, .int n, rfl, rfl, SqL.of (k8 _ _ npb' upd_same), hn, ?_⟩
    refine q n H8 h0 h1 (fun x o nx e => ?_) ?_
    · have e3 := k3 _ _ nx (k2 _ _ nx (k1 _ _ nx e))
      have nxp : x ≠ p := ne_of_none e3 np
      refine k8 _ _ nx ?_
      rw [upd_ne nxp]
      refine k6 _ _ nx (k5 _ _ nx ?_)
      rw [upd_ne nxp]
      exact e3
    · rw [show c + 6 = c + 1 + 1 + 1 + 1 + 1 + 1 by omega]
      exact B8
theorem ok_amount {f fW : Addr} {fd fdW : FuncData} {k : Nat} (F : Fun K "_law_amount" "_law_amount" sAmount f fd) (T : Txt mg) (G : FnOk P w K mg base CX0 (k + 1) fW fdW ["_law_box_here"] spWide) (kW : PySem.W.keepIn K (.ref fW) = true) (mgW : mg "_law_wide" = some (.ref fW)) (bW : Binds K fdW ["_law_box_here"] [])
    : FnOk P w K mg base CX0 (k + 2) f fd ["_law_box_here", "_law_wares"] spAmount := by
  refine F.ok scAmount (fun vs H Q E h => ?_) (fun cdv A outer s H vs Q E hr h => ?_)
  · obtain ⟨b, c, k, rfl, _⟩ := h
    rfl
  · obtain ⟨b, c, n, rfl, hB, hc, hn, q⟩ := h
    refine ⟨_, pss_one (ps_ret (pe_callTy call_tuple_of (by rfl) T.tup bt_tuple (pa_cons (pe_lc (own := [("_law_k", 2)]) (g := gName 2) (tt := tYes) rfl scAmount.nd
      (pi_range1 (by rfl) T.range (pa_cons (pv 1) pa_nil)) (blkOk_by (own := [("_law_k", 2)]) (N := nM) (sc := defScope sAmount) (by decide +kernel))
      (fun _ _ _ _ _ => pg_name (i := 2) scAmount.nd rfl (Or.inl rfl)) (fun _ _ _ _ _ => pts_nil)
      (fun _ _ _ _ _ => pe_call G hr (by rfl) mgW kW bW .nil pass0 (pa_cons (pv 0) pa_nil))) pa_nil))), ?_⟩
    refine ⟨_, rfl, (n : Int), rfl, by omega, by omega, fun D nD => ?_⟩
    have nDb : D ≠ b := fun z => by
      obtain ⟨xs, h1, _⟩ := hB
      rw [z, h1] at nD
      cases nD
    have nDb' : D ∉ [b] := fun z => nDb (List.mem_singleton.mp z)
    rw [Int.toNat_natCast]
    refine lc_range (lo := 0) (n := n) (fun i H' => Kp [b] H H' ∧ BoxAt H' b (c + 6 * (i : Int)) ∧ ∃ ns : List Int, H' D = some (.lst (ns.map V.int)) ∧ ns.length = i ∧ Amt ns)
      ⟨fun x o nx e => same_upd nD _ _ e, by simpa using hB.same (same_upd nD), [], upd_same, rfl, fun _ h => (nomatch h)⟩ (fun i H3 hi p => ?_) (fun H3 p => ?_)
    · obtain ⟨p1, p2, ns, p3, p4, p5⟩ := p
      refine ⟨rfl, ?_⟩
      refine ⟨_, rfl, b, _, rfl, p2, by omega, fun m H4 m0 m1 k4 B4 => ⟨_, k4 _ _ nDb' p3, ?_, fun x o nx e => ?_, ?_, ns ++ [m], ?_, ?_, fun z hz => ?_⟩⟩
      · rw [List.length_map, p4]
        exact small1000 (by omega)
      · rw [upd_ne (ne_of_none e nD)]
        exact k4 _ _ nx (p1 _ _ nx e)
      · obtain ⟨xs, h1, h2⟩ := B4
        refine ⟨xs, by rw [upd_ne nDb.symm]; exact h1, ?_⟩
        rw [show c + 6 * ((i + 1 : Nat) : Int) = c + 6 * (i : Int) + 6 by omega]
        exact h2
      · rw [upd_same, List.map_append]
        rfl
      · rw [List.length_append, p4]
        rfl
      · rcases List.mem_append.mp hz with hz | hz
        · exact p5 z hz
        · rw [List.mem_singleton.mp hz]
          exact ⟨m0, m1⟩
    · obtain ⟨p1, p2, ns, p3, p4, p5⟩ := p
      refine ⟨D, _, rfl, .inl ⟨SqL.of p3, fun p np => ?_⟩⟩
      refine q p ns _ p5 p4 (fun x o nx e => same_upd np _ _ (p1 _ _ nx e)) ?_ ?_ upd_same
      · obtain ⟨xs, g1, d, m, t, g2, g3, g4, g5, g6, g7⟩ := p2.same (same_upd (o := .tup (ns.map V.int)) np)
        exact ⟨xs, g1, d, m, t, g2, g3, g4, g5, g6, by omega⟩
      · cases e : H p with
        | none => rfl
        | some o =>
          by_cases hpb : p = b
          · obtain ⟨xs, h1, _⟩ := p2
            rw [hpb, h1] at np
            cases np
          · rw [p1 _ _ (fun z => hpb (List.mem_singleton.mp z)) e] at np
            cases np
end
end My

namespace GX
open PySem PySem.Spec PyProof.Rows L2
theorem fold_min (n : Int) : ∀ ns : List Int, (ns.foldl min n = n ∨ ns.foldl min n ∈ ns) ∧ ns.foldl min n ≤ n ∧ ∀ y ∈ ns, ns.foldl min n ≤ y := by
  intro ns
  induction ns generalizing n with
  | nil => exact ⟨.inl rfl, Int.le_refl _, fun _ h => nomatch h⟩
  | cons m r ih =>
    obtain ⟨h1, h2, h3⟩ := ih (min n m)
    rw [List.foldl_cons]
    refine ⟨?_, by omega, fun y hy => ?_⟩
    · rcases h1 with e | e
      · rw [e]
        by_cases hm : n ≤ m
        · exact .inl (by omega)
        · exact .inr (by rw [show min n m = m by omega]; exact List.mem_cons_self)
      · exact .inr (List.mem_cons_of_mem _ e)
    · rcases List.mem_cons.mp hy with e | e
      · rw [e]
        omega
      · exact h3 y e
/-- min(xs, default=d), xs a list of whole numbers -/
def rMinD (K : PySem.W.Frag) : List V → List V → Hp → VK → Prop := fun vs zs H Q => ∃ (a : Addr) (ns : List Int) (d : V), vs = [.ref a] ∧ zs = [d] ∧ SqL K H a (ns.map V.int) ∧ (ns = [] → Q d H) ∧ ∀ m, m ∈ ns → (∀ y ∈ ns, m ≤ y) → Q (.int m) H
theorem cr_minD {X : Cx} (hc : X.calm = true) (hu : X.A.units + 1 < cLine) : CallRK X (.builtin "min") ["default"] (rMinD X.K) := by
  intro pins s σ H xs zs us ws Q I r1 r2 h
  obtain ⟨a, ns, d, rfl, rfl, hq, q0, q1⟩ := h
  obtain ⟨u, rfl, ru⟩ := vals1 r1
  obtain ⟨u2, rfl, ru2⟩ := vals1 r2
  obtain rfl : u = Value.ref a := ru
  obtain ⟨its, rv, pl, _⟩ := I.list hq
  have rd : ∀ (ns : List Int) (us : List Value), Vals (ns.map V.int) us → ReadsAll s.heap us (ns.map PyData.int) [] := by
    intro ns
    induction ns with
    | nil =>
      intro us h
      cases h
      exact .nil
    | cons n r ih =>
      intro us h
      cases h with
      | cons h1 h2 =>
        obtain ⟨t, rfl⟩ := h1
        exact .cons (as := []) (bs := []) (.int n t) (ih _ h2)
  refine PySem.W.min_list_default (xs := ns.map PyData.int) (as := []) (I.ok.hd hc) pl.isList (rd ns its rv) ⟨fun x hx y hy => ?_, fun x hx => ?_⟩ (by rw [PySem.W.ke_depthAll]; exact hu) (fun e h' tk kp => ?_) (fun y ys i v h' tk bs e hv hr kp => ?_)
  · obtain ⟨i, _, rfl⟩ := List.mem_map.mp hx
    obtain ⟨j, _, rfl⟩ := List.mem_map.mp hy
    rfl
  · obtain ⟨i, _, rfl⟩ := List.mem_map.mp hx
    exact fun z => nomatch z
  · have e2 : ns = [] := by
      cases ns with
      | nil => rfl
      | cons _ _ => cases e
    exact ⟨d, H, I.kept kp, ru2, q0 e2⟩
  · cases ns with
    | nil => cases e
    | cons n r =>
      rw [List.map_cons] at e
      injection e with e1 e2
      subst e1 e2
      rw [PySem.W.minD_ints] at hr
      obtain ⟨t, rfl⟩ : ∃ t, v = Value.int (r.foldl min n) t := by
        cases hr
        exact ⟨_, rfl⟩
      obtain ⟨h1, h2, h3⟩ := fold_min n r
      refine ⟨.int (r.foldl min n), H, I.kept kp, ⟨t, rfl⟩, q1 _ ?_ fun y hy => ?_⟩
      · rcases h1 with e | e
        · rw [e]
          exact List.mem_cons_self
        · exact List.mem_cons_of_mem _ e
      · rcases List.mem_cons.mp hy with e | e
        · rw [e]
          exact h2
        · exact h3 y e
theorem fold_max (n : Int) : ∀ ns : List Int, (ns.foldl max n = n ∨ ns.foldl max n ∈ ns) ∧ n ≤ ns.foldl max n ∧ ∀ y ∈ ns, y ≤ ns.foldl max n := by
  intro ns
  induction ns generalizing n with
  | nil => exact ⟨.inl rfl, Int.le_refl _, fun _ h => nomatch h⟩
  | cons m r ih =>
    obtain ⟨h1, h2, h3⟩ := ih (max n m)
    rw [List.foldl_cons]
    refine ⟨?_, by omega, fun y hy => ?_⟩
    · rcases h1 with e | e
      · rw [e]
        by_cases hm : m ≤ n
        · exact .inl (by omega)
        · exact .inr (by rw [show max n m = m by omega]; exact List.mem_cons_self)
      · exact .inr (List.mem_cons_of_mem _ e)
    · rcases List.mem_cons.mp hy with e | e
      · rw [e]
        omega
      · exact h3 y e
/-- max(t), t a tuple of whole numbers -/
def rMaxT (K : PySem.W.Frag) : List V → Hp → VK → Prop := fun vs H Q => ∃ (a : Addr) (ns : List Int), vs = [.ref a] ∧ SqT K H a (ns.map V.int) ∧ 0 < ns.length ∧ ∀ m, m ∈ ns → (∀ y ∈ ns, y ≤ m) → Q (.int m) H
theorem cr_maxT {X : Cx} (hc : X.calm = true) (hu : X.A.units + 1 < cLine) : CallR X (.builtin "max") (rMaxT X.K) := by
  intro pins s σ H xs us Q I r1 h
  obtain ⟨a, ns, rfl, hq, hn, q1⟩ := h
  obtain ⟨u, rfl, ru⟩ := vals1 r1
  obtain rfl : u = Value.ref a := ru
  obtain ⟨its, rv, pl, _⟩ := I.tuple hq
  have rd : ∀ (ns : List Int) (us : List Value), Vals (ns.map V.int) us → ReadsAll s.heap us (ns.map PyData.int) [] := by
    intro ns
    induction ns with
    | nil =>
      intro us h
      cases h
      exact .nil
    | cons n r ih =>
      intro us h
      cases h with
      | cons h1 h2 =>
        obtain ⟨t, rfl⟩ := h1
        exact .cons (as := []) (bs := []) (.int n t) (ih _ h2)
  cases ns with
  | nil => cases hn
  | cons n r =>
    refine PySem.W.max_tuple_data (x := .int n) (xs := r.map PyData.int) (as := []) (I.ok.hd hc) pl (rd (n :: r) its rv) ⟨fun x hx y hy => ?_, fun x hx => ?_⟩ ?_ (fun i v h' tk bs hv hr kp => ?_)
    · obtain ⟨i, _, rfl⟩ := List.mem_map.mp (show x ∈ (n :: r).map PyData.int from hx)
      obtain ⟨j, _, rfl⟩ := List.mem_map.mp (show y ∈ (n :: r).map PyData.int from hy)
      rfl
    · obtain ⟨i, _, rfl⟩ := List.mem_map.mp (show x ∈ (n :: r).map PyData.int from hx)
      exact fun z => nomatch z
    · show X.A.units + 1 + PyData.depthAll ((n :: r).map PyData.int) < cLine
      rw [PySem.W.ke_depthAll]
      exact hu
    · rw [PySem.W.maxD_ints] at hr
      obtain ⟨t, rfl⟩ : ∃ t, v = Value.int (r.foldl max n) t := by
        cases hr
        exact ⟨_, rfl⟩
      obtain ⟨h1, h2, h3⟩ := fold_max n r
      refine ⟨.int (r.foldl max n), H, I.kept kp, ⟨t, rfl⟩, q1 _ ?_ fun y hy => ?_⟩
      · rcases h1 with e | e
        · rw [e]
          exact List.mem_cons_self
        · exact List.mem_cons_of_mem _ e
      · rcases List.mem_cons.mp hy with e | e
        · rw [e]
          exact h2
        · exact h3 y e
end GX

namespace My
open PySem PySem.Spec PyProof.Rows L2 GX GxR
theorem cat_read {K : PySem.W.Frag} {H : Hp} {Q : VK} {a b : Addr} {xs ys : List V} (N : Addr → Prop) (ha : H a = some (.tup xs)) (hb : H b = some (.tup ys)) (na : N a) (nb : N b) (hn : ∀ p, H p = none → N p) (hl : xs.length + ys.length ≤ sizeLine)
    (q : ∀ p H', Same H H' → N p → H' p = some (.tup (xs ++ ys)) → Q (.ref p) H') : rCatA K (.ref a) (.ref b) H Q := by
  refine ⟨a, b, xs, ys, rfl, rfl, SqT.of ha, SqT.of hb, hl, fun e => ?_, fun e1 e2 => ?_, fun e1 e2 p np => q p _ (same_upd np) (hn p np) upd_same⟩
  · subst e
    exact q b H (Same.refl _) nb hb
  · subst e2
    exact q a H (Same.refl _) na (by rw [List.append_nil]; exact ha)
end My

namespace My
open PySem PySem.Spec PyProof.Rows L2 GX GxR
abbrev sTimes : Stmt := topS 1
abbrev sMost : Stmt := topS 2
abbrev sWant : Stmt := topS 10
abbrev sRoom : Stmt := topS 11
abbrev sLFits : Stmt := topS 12
abbrev nQ : List Str := ["want", "room", "need", "have"]
abbrev nW : List Str := ["_law_box_here", "_law_wares", "_law_want_here"]
abbrev nR : List Str := ["_law_box_here", "_law_want_here", "_law_n", "_law_room_here", "_law_number", "_law_more"]
abbrev nF : List Str := ["_law_want_here", "_law_n", "_law_room_here", "_law_k"]
theorem scTimes : FnScope ["one", "n", "a"] ["one", "n"] (defScope sTimes) := ⟨rfl, rfl, rfl, by decide +kernel, rfl, by decide +kernel, by decide +kernel⟩
theorem scMost : FnScope nQ ["want", "room"] (defScope sMost) := ⟨rfl, rfl, rfl, by decide +kernel, rfl, by decide +kernel, by decide +kernel⟩
theorem scWant : FnScope nW ["_law_box_here", "_law_wares"] (defScope sWant) := ⟨rfl, rfl, rfl, by decide +kernel, rfl, by decide +kernel, by decide +kernel⟩
theorem scRoom : FnScope nR ["_law_box_here", "_law_want_here", "_law_n"] (defScope sRoom) := ⟨rfl, rfl, rfl, by decide +kernel, rfl, by decide +kernel, by decide +kernel⟩
theorem scLFits : FnScope nF ["_law_want_here", "_law_n", "_law_room_here"] (defScope sLFits) := ⟨rfl, rfl, rfl, by decide +kernel, rfl, by decide +kernel, by decide +kernel⟩
theorem sIx_last (n d : Nat) : HT.sIx n d (some (-1)) = n - 1 := by
  show (if (-1 : Int) < 0 then ((-1 : Int) + (n : Int)).toNat else min (-1 : Int).toNat n) = n - 1
  rw [if_pos (by decide)]
  omega
def spTimesS (K : PySem.W.Frag) : Sp := fun vs H Q _ => ∃ (a : Addr) (n : Int) (xs : List Int), vs = [.ref a, .int n] ∧ SqT K H a (xs.map V.int) ∧ xs.length ≤ 1000 ∧ 0 ≤ n ∧ n ≤ 1000000000 ∧
  ∀ p H', Same H H' → H p = none → H' p = some (.tup ((xs.map (· * n)).map V.int)) → Q (.ref p) H'
/-- how often each number that is wanted goes into the room's -/
def quots : List Int → List Int → List Int
  | x :: xs, y :: ys => if 0 < x then y / x :: quots xs ys else quots xs ys
  | _, _ => []
theorem quots_snoc : ∀ (xs ys : List Int) (x y : Int), xs.length = ys.length → quots (xs ++ [x]) (ys ++ [y]) = quots xs ys ++ (if 0 < x then [y / x] else [])
  | [], [], x, y, _ => rfl
  | a :: xs, b :: ys, x, y, h => by
    have ih := quots_snoc xs ys x y (by simpa using h)
    show (if 0 < a then b / a :: quots (xs ++ [x]) (ys ++ [y]) else quots (xs ++ [x]) (ys ++ [y])) = (if 0 < a then b / a :: quots xs ys else quots xs ys) ++ _
    rw [ih]
    split <;> rfl
theorem quots_len : ∀ xs ys : List Int, (quots xs ys).length ≤ xs.length
  | [], _ => Nat.zero_le _
  | _ :: _, [] => Nat.zero_le _
  | x :: xs, y :: ys => by
    have ih := quots_len xs ys
    show (if 0 < x then y / x :: quots xs ys else quots xs ys).length ≤ xs.length + 1
    split
    · rw [List.length_cons]
      omega
    · omega
def spMost (K : PySem.W.Frag) : Sp := fun vs H Q _ => ∃ (a b : Addr) (xs ys : List Int), vs = [.ref a, .ref b] ∧ SqT K H a (xs.map V.int) ∧ SqT K H b (ys.map V.int) ∧ xs.length = ys.length ∧ xs.length ≤ 1000 ∧ Amt xs ∧ quots xs ys ≠ [] ∧
  ∀ m H', Same H H' → m ∈ quots xs ys → (∀ z ∈ quots xs ys, m ≤ z) → Q (.int m) H'
def spWant : Sp := fun vs H Q _ => ∃ (b : Addr) (c : Int) (k : Nat), vs = [.ref b, .int (k : Int)] ∧ BoxAt H b c ∧ c ≤ 1000000 ∧ 1 ≤ k ∧ k ≤ 100 ∧
  ∀ p ns H', Amt ns → ns.length = k → (∃ x ∈ ns, 0 < x) → Kp [b] H H' → BoxAt H' b (c + 700) → H p = none → H' p = some (.tup (ns.map V.int)) → Q (.ref p) H'
def spRoom : Sp := fun vs H Q _ => ∃ (b p : Addr) (c n : Int) (xs : List Int), vs = [.ref b, .ref p, .int n] ∧ BoxAt H b c ∧ H p = some (.tup (xs.map V.int)) ∧ Amt xs ∧ xs.length ≤ 100 ∧ 0 ≤ n ∧ n ≤ 1000000000 ∧ c ≤ 1000000 ∧
  ∀ p' ys H', Amt ys → ys.length = xs.length → Kp [b] H H' → BoxAt H' b (c + 2000) → H p' = none → H' p' = some (.tup (ys.map V.int)) → Q (.ref p') H'
def fitN (xs : List Int) (n : Int) (ys : List Int) : Bool := (List.zipWith (fun x y : Int => decide (x * n ≤ y)) xs ys).all _root_.id
def spLFits : Sp := fun vs H Q _ => ∃ (p r : Addr) (n : Int) (xs ys : List Int), vs = [.ref p, .int n, .ref r] ∧ H p = some (.tup (xs.map V.int)) ∧ H r = some (.tup (ys.map V.int)) ∧ xs.length = ys.length ∧ xs.length ≤ 100 ∧ Amt xs ∧ ∀ H', Same H H' → Q (.bl (fitN xs n ys)) H'
section
variable {P : Program} {w : World} {K : PySem.W.Frag} {mg : Str → Option Value} {base : Heap}
theorem ok_times {f : Addr} {fd : FuncData} {k : Nat} (F : Fun K "amount_times" "amount_times" sTimes f fd) (X : Txt mg) : FnOk P w K mg base CX0 (k + 1) f fd ["one", "n"] (spTimesS K) := by
  refine F.ok scTimes (fun vs H Q E h => ?_) (fun cdv A outer s H vs Q E hr h => ?_)
  · obtain ⟨a, n, xs, rfl, _⟩ := h
    rfl
  · obtain ⟨a, n, xs, rfl, hX, hl, n0, n1, q⟩ := h
    refine ⟨_, (pss_one (ps_ret (pe_callTy call_tuple_of (by rfl) X.tup bt_tuple (pa_cons (pe_lc (own := [("a", 2)]) (g := (gName 2)) (tt := tYes) rfl scTimes.nd (pi_tup (pv 0)) (blkOk_by (own := [("a", 2)]) (N := ["one", "n", "a"]) (sc := defScope sTimes) (by decide +kernel)) (fun _ _ _ _ _ => (pg_name (i := 2) scTimes.nd rfl (.inl rfl))) (fun _ _ _ _ _ => pts_nil) (fun _ _ _ _ _ => (pe_op op_mul (pv 2) (pv 1)))) pa_nil)))), ?_⟩
    refine ⟨_, rfl, a, rfl, ⟨_, hX⟩, fun D nD => ?_⟩
    refine lc_tup (K := K) (a := a) (xs := xs.map V.int) (fun i H' => Same H H' ∧ H' D = some (.lst (((xs.map (· * n)).take i).map V.int))) ⟨same_upd nD, upd_same⟩ (fun i H' _ p => same_seqT p.1 hX) (fun i v H3 hv p => ?_) (fun H3 p => ?_)
    · obtain ⟨p1, p2⟩ := p
      obtain ⟨x, hx, rfl⟩ := get_int hv
      have hi2 : i < xs.length := (List.getElem?_eq_some_iff.mp hx).1
      refine ⟨rfl, ?_⟩
      refine ⟨_, rfl, _, rfl, x, n, rfl, rfl, .inr ⟨by omega, by omega⟩, _, p2, ?_, same_putA p1 nD, ?_⟩
      · rw [List.length_map, List.length_take, List.length_map]
        exact small1000 (by omega)
      · rw [upd_same, List.take_add_one, List.getElem?_map, hx, List.map_append]
        rfl
    · obtain ⟨p1, p2⟩ := p
      rw [List.take_of_length_le (by rw [List.length_map, List.length_map]; exact Nat.le_refl _)] at p2
      refine ⟨D, _, rfl, .inl ⟨SqL.of p2, fun d nd => ?_⟩⟩
      exact q d _ (p1.trans (same_upd nd)) (p1.free nd) upd_same
theorem ok_most {f : Addr} {fd : FuncData} {k : Nat} (F : Fun K "most_times" "most_times" sMost f fd) (X : Txt mg) : FnOk P w K mg base CX0 (k + 1) f fd ["want", "room"] (spMost K) := by
  refine F.ok scMost (fun vs H Q E h => ?_) (fun cdv A outer s H vs Q E hr h => ?_)
  · obtain ⟨a, b, xs, ys, rfl, _⟩ := h
    rfl
  · obtain ⟨a, b, xs, ys, rfl, hX, hY, hl, hl2, hA, hne, q⟩ := h
    refine ⟨_, pss_one (ps_ret (pe_callBK (cr_minD rfl (hu_of hr)) (by rfl) X.min (by decide +kernel) (pa_cons
      (pe_lc (own := [("need", 2), ("have", 3)]) (g := gTup K 2 (gCons (gName 2) (gCons (gName 3) gNil))) (tt := tTest (tOp (rI0 fun i j => .bl (decide (j < i))) (tVar 2) (tC (.int 0)))) rfl scMost.nd
        (RZ.pi_zipA (by rfl) X.zip (pa_cons (pv 0) (pa_cons (pv 1) pa_nil))) (blkOk_by (own := [("need", 2), ("have", 3)]) (N := nQ) (sc := defScope sMost) (by decide +kernel))
        (fun _ _ _ _ _ => pg_tup rfl (pgs_cons (pg_name (i := 2) scMost.nd rfl (Or.inl rfl)) (pgs_cons (pg_name (i := 3) scMost.nd rfl (Or.inl rfl)) pgs_nil)))
        (fun _ _ _ _ _ => pts_one (pt_cmpR op_gt (pv 2) pe_int (nomark _)))
        (fun _ _ _ _ _ => pe_op op_fdivW (pv 3) (pv 2))) pa_nil) (pk_cons pe_int pk_nil))), ?_⟩
    have hn : min ((xs.map V.int).length) ((ys.map V.int).length) = xs.length := by
      rw [List.length_map, List.length_map]
      omega
    refine ⟨_, rfl, _, rfl, a, b, _, _, rfl, .inr ⟨hX, hY, fun D nD => lc_it (walk_zipT (xs := xs.map V.int) (ys := ys.map V.int) hn.symm) (fun i H' => Same H H' ∧ H' D = some (.lst ((quots (xs.take i) (ys.take i)).map V.int))) ⟨same_upd nD, upd_same⟩ (fun i H' _ p => ?_) (fun i v H3 H4 hi p y => ?_) (fun H3 p => ?_)⟩⟩
    · exact ⟨same_seqT p.1 hX, same_seqT p.1 hY⟩
    · obtain ⟨T1, x1, x2, rfl, nT, rfl, g1, g2⟩ := y
      obtain ⟨p1, p2⟩ := p
      have hi2 : i < ys.length := by omega
      have e1 : xs[i]? = some xs[i] := List.getElem?_eq_getElem hi
      have e2 : ys[i]? = some ys[i] := List.getElem?_eq_getElem hi2
      have f1 : x1 = .int xs[i] := by
        have : (xs.map V.int)[i]? = some x1 := g1
        rw [List.getElem?_map, e1] at this
        exact (Option.some.inj this).symm
      have f2 : x2 = .int ys[i] := by
        have : (ys.map V.int)[i]? = some x2 := g2
        rw [List.getElem?_map, e2] at this
        exact (Option.some.inj this).symm
      subst f1 f2
      have s3 : Same H3 (upd H3 T1 (.tup [.int xs[i], .int ys[i]])) := same_upd nT
      have tk : quots (xs.take (i + 1)) (ys.take (i + 1)) = quots (xs.take i) (ys.take i) ++ (if 0 < xs[i] then [ys[i] / xs[i]] else []) := by
        rw [List.take_add_one, List.take_add_one, e1, e2]
        exact quots_snoc _ _ _ _ (by rw [List.length_take, List.length_take]; omega)
      have hx := hA xs[i] (List.getElem_mem hi)
      refine ⟨T1, [.int xs[i], .int ys[i]], rfl, SqT.of upd_same, rfl, .int xs[i], [.int ys[i]], rfl, .int ys[i], [], rfl, rfl, rfl, ?_⟩
      refine ⟨_, rfl, xs[i], 0, rfl, rfl, _, rfl, ite2 (fun e => ?_) (fun e => ?_)⟩
      · have e3 : 0 < xs[i] := of_decide_eq_true e
        refine ⟨_, rfl, _, rfl, ys[i], xs[i], rfl, rfl, wide_div (b := 64) e3 (by omega) (by decide) (by decide), _, s3 _ _ p2, ?_, fun x o e4 => ?_, ?_⟩
        · rw [List.length_map]
          exact small1000 (Nat.le_trans (quots_len _ _) (by rw [List.length_take]; omega))
        · rw [upd_ne (ne_of_none e4 nD)]
          exact s3 _ _ (p1 _ _ e4)
        · rw [upd_same, tk, if_pos e3, List.map_append]
          rfl
      · have e3 : ¬ 0 < xs[i] := fun z => e (decide_eq_true z)
        refine ⟨p1.trans s3, ?_⟩
        rw [tk, if_neg e3, List.append_nil]
        exact s3 _ _ p2
    · obtain ⟨p1, p2⟩ := p
      rw [List.take_of_length_le (Nat.le_refl _), List.take_of_length_le (by omega)] at p2
      exact ⟨D, _, .int 0, rfl, rfl, SqL.of p2, fun e => absurd e hne, fun m h1 h2 => q m _ p1 h1 h2⟩
theorem ok_lfits {f : Addr} {fd : FuncData} {k : Nat} (F : Fun K "_law_fits" "_law_fits" sLFits f fd) (X : Txt mg) : FnOk P w K mg base CX0 (k + 1) f fd ["_law_want_here", "_law_n", "_law_room_here"] spLFits := by
  refine F.ok scLFits (fun vs H Q E h => ?_) (fun cdv A outer s H vs Q E hr h => ?_)
  · obtain ⟨p, r, n, xs, ys, rfl, _⟩ := h
    rfl
  · obtain ⟨p, r, n, xs, ys, rfl, h1, h2, hl, hl2, hA, q⟩ := h
    refine ⟨_, pss_one (ps_ret (pe_callB (cr_all rfl) (by rfl) X.all (by decide +kernel) (pa_cons (pe_lc (own := [("_law_k", 3)]) (g := gName 3) (tt := tYes) rfl scLFits.nd
      (pi_range1 (by rfl) X.range (pa_cons (pe_callB call_len_seq (by rfl) X.len PySem.boot_len (pa_cons (pv 0) pa_nil)) pa_nil)) (blkOk_by (own := [("_law_k", 3)]) (N := nF) (sc := defScope sLFits) (by decide +kernel))
      (fun _ _ _ _ _ => pg_name (i := 3) scLFits.nd rfl (Or.inl rfl)) (fun _ _ _ _ _ => pts_nil)
      (fun _ _ _ _ _ => pe_cmpR op_le (pe_op op_mul (pe_ix (r := rIxT K) ix_tup (pv 0) (pv 3) (fun _ _ => rfl)) (pv 1)) (pe_ix (r := rIxT K) ix_tup (pv 2) (pv 3) (fun _ _ => rfl)) (nomark _))) pa_nil))), ?_⟩
    refine ⟨_, rfl, p, _, rfl, .inr (SqT.of h1), _, rfl, by rw [List.length_map]; omega, by rw [List.length_map]; omega, fun D nD => ?_⟩
    rw [List.length_map, Int.toNat_natCast]
    refine lc_range (lo := 0) (n := xs.length) (fun i H' => Same H H' ∧ H' D = some (.lst (((List.zipWith (fun x y : Int => decide (x * n ≤ y)) xs ys).take i).map V.bl))) ⟨same_upd nD, upd_same⟩ (fun i H3 hi p => ?_) (fun H3 p => ?_)
    · obtain ⟨p1, p2⟩ := p
      have hj : i < ys.length := by omega
      have g1 : xs[i]? = some xs[i] := List.getElem?_eq_getElem hi
      have g2 : ys[i]? = some ys[i] := List.getElem?_eq_getElem hj
      have hx := hA xs[i] (List.getElem_mem hi)
      refine ⟨rfl, ?_⟩
      refine ⟨_, rfl, _, rfl, _, _, _, _, rfl, rfl, SqT.of (p1 _ _ h1), at_ints g1, _, rfl, xs[i], n, rfl, rfl, .inl ⟨by omega, by omega⟩, _, rfl, _, rfl, _, _, _, _, rfl, rfl, SqT.of (p1 _ _ h2), at_ints g2, _, ys[i], rfl, rfl, _, p2, ?_, fun x o e => ?_, ?_⟩
      · rw [List.length_map, List.length_take]
        exact small1000 (by omega)
      · rw [upd_ne (ne_of_none e nD)]
        exact p1 _ _ e
      · rw [upd_same, List.take_add_one, List.getElem?_zipWith, g1, g2, List.map_append]
        rfl
    · obtain ⟨p1, p2⟩ := p
      rw [List.take_of_length_le (by rw [List.length_zipWith]; omega)] at p2
      exact ⟨D, _, rfl, SqL.of p2, q _ p1⟩
theorem ok_want {f fT fM : Addr} {fd fdT fdM : FuncData} {k : Nat} (F : Fun K "_law_want" "_law_want" sWant f fd) (X : Txt mg)
    (GT : FnOk P w K mg base CX0 (k + 2) fT fdT ["_law_box_here", "_law_many"] spTake) (mT : mg "_law_take" = some (.ref fT)) (kT : PySem.W.keepIn K (.ref fT) = true) (bT : Binds K fdT ["_law_box_here", "_law_many"] [])
    (GM : FnOk P w K mg base CX0 (k + 2) fM fdM ["_law_box_here", "_law_wares"] spAmount) (mM : mg "_law_amount" = some (.ref fM)) (kM : PySem.W.keepIn K (.ref fM) = true) (bM : Binds K fdM ["_law_box_here", "_law_wares"] []) :
    FnOk P w K mg base CX0 (k + 3) f fd ["_law_box_here", "_law_wares"] spWant := by
  refine F.ok scWant (fun vs H Q E h => ?_) (fun cdv A outer s H vs Q E hr h => ?_)
  · obtain ⟨b, c, k, rfl, _⟩ := h
    rfl
  · obtain ⟨b, c, n, rfl, hB, hc, n1, n2, q⟩ := h
    refine ⟨_, pss_cons (ps_set (i := 2) scWant.nd rfl (.inl rfl) (pe_call GM hr (by rfl) mM kM bM .nil pass0 (pa_cons (pv 0) (pa_cons (pv 1) pa_nil))))
      (pss_cons (ps_if (pt_cmpR op_gt (pe_callB (cr_maxT rfl (hu_of hr)) (by rfl) X.max (by decide +kernel) (pa_cons (pv 2) pa_nil)) pe_int (nomark _)) (pss_one (ps_ret (pv 2))) pss_nil)
      (pss_one (ps_ret (pe_op op_catA (pe_slice sl_tup (pv 2) po_none (po_some (pe_un un_neg pe_int))) (pe_tup (pa_cons (pe_op op_add pe_int (pe_call GT hr (by rfl) mT kT bT .nil pass0 (pa_cons (pv 0) (pa_cons pe_int pa_nil)))) pa_nil)))))), ?_⟩
    refine ⟨_, rfl, _, rfl, b, c, n, rfl, hB, by omega, n2, fun p xs H1 A1 L1 k1 B1 np e1 => ?_⟩
    refine ⟨_, rfl, p, xs, rfl, SqT.of e1, by omega, fun m hm hall => ⟨m, 0, rfl, rfl, _, rfl, ite2 (fun e => ?_) (fun e => ?_)⟩⟩
    · exact ⟨_, rfl, q p xs H1 A1 L1 ⟨m, hm, of_decide_eq_true e⟩ k1 (B1.le (by omega)) np e1⟩
    · refine ⟨_, rfl, 1, rfl, -1, rfl, p, _, rfl, SqT.of e1, ?_, fun s1 ns1 => ?_⟩
      · rw [sIx_last, List.length_map]
        omega
      have c1 : cutV (xs.map V.int) none (some (-1)) = (xs.take (n - 1)).map V.int := by
        unfold cutV
        rw [HT.sIx_none, List.drop_zero, List.map_take, sIx_last, List.length_map, L1, Nat.sub_zero]
      rw [c1]
      have B2 := B1.same (same_upd (o := .tup ((xs.take (n - 1)).map V.int)) ns1)
      refine ⟨_, rfl, b, _, 9, rfl, B2, by decide, by decide, by omega, fun r H3 r0 r1 k3 B3 => ⟨1, r, rfl, rfl, by show 1 ≤ sizeLine; decide, fun s2 ns2 => ?_⟩⟩
      have ns1b := box_new B1 ns1
      have e3 : H3 s1 = some (.tup ((xs.take (n - 1)).map V.int)) := k3 _ _ ns1b upd_same
      have kk : Kp [b] H H3 := fun x o nx e => by
        have e2 := k1 _ _ nx e
        refine k3 _ _ nx ?_
        rw [upd_ne (ne_of_none e2 ns1)]
        exact e2
      refine cat_read (fun x => H x = none) (same_upd ns2 _ _ e3) upd_same (box_free B1 k1 ns1) (box_free B3 kk ns2) (fun x nx => box_free B3 kk ((same_upd ns2).free nx)) ?_ fun s3 H4 s4 n3 e4 => ?_
      · rw [List.length_map, List.length_take]
        show min (n - 1) xs.length + 1 ≤ sizeLine
        exact Nat.le_of_lt (small1000 (by omega))
      have sS := (same_upd (o := .tup [.int (1 + r)]) ns2).trans s4
      refine q s3 (xs.take (n - 1) ++ [1 + r]) H4 ((A1.take _).app fun z hz => ?_) ?_ ⟨1 + r, List.mem_append_right _ List.mem_cons_self, by omega⟩ (fun x o nx e => sS _ _ (kk _ _ nx e)) ((B3.same sS).le (by omega)) n3 ?_
      · rw [List.mem_singleton.mp hz]
        omega
      · rw [List.length_append, List.length_take]
        show min (n - 1) xs.length + 1 = n
        omega
      · rw [e4, List.map_append]
        rfl
theorem ok_room {f fT fM fW : Addr} {fd fdT fdM fdW : FuncData} {k : Nat} (F : Fun K "_law_room" "_law_room" sRoom f fd) (X : Txt mg)
    (GT : FnOk P w K mg base CX0 (k + 2) fT fdT ["_law_box_here", "_law_many"] spTake) (mT : mg "_law_take" = some (.ref fT)) (kT : PySem.W.keepIn K (.ref fT) = true) (bT : Binds K fdT ["_law_box_here", "_law_many"] [])
    (GW : FnOk P w K mg base CX0 (k + 2) fW fdW ["_law_box_here"] spWide) (mW : mg "_law_wide" = some (.ref fW)) (kW : PySem.W.keepIn K (.ref fW) = true) (bW : Binds K fdW ["_law_box_here"] [])
    (GM : FnOk P w K mg base CX0 (k + 2) fM fdM ["_law_box_here", "_law_wares"] spAmount) (mM : mg "_law_amount" = some (.ref fM)) (kM : PySem.W.keepIn K (.ref fM) = true) (bM : Binds K fdM ["_law_box_here", "_law_wares"] []) :
    FnOk P w K mg base CX0 (k + 3) f fd ["_law_box_here", "_law_want_here", "_law_n"] spRoom := by
  refine F.ok scRoom (fun vs H Q E h => ?_) (fun cdv A outer s H vs Q E hr h => ?_)
  · obtain ⟨b, p, c, n, xs, rfl, _⟩ := h
    rfl
  · obtain ⟨b, p, c, n, xs, rfl, hB, hP, hA, hl, n0, n1, hc, q⟩ := h
    refine ⟨_, pss_cons (ps_set (i := 3) scRoom.nd rfl (.inl rfl) (pe_lst pa_nil))
      (pss_cons (ps_for PassesOwn.never rfl (pi_tup (pv 1)) (pg_name (i := 4) scRoom.nd rfl (.inl rfl))
        (pss_cons (ps_set (i := 5) scRoom.nd rfl (.inl rfl) (pe_ix ix_list (pe_lst (pa_cons pe_int (pa_cons (pe_un un_neg pe_int) (pa_cons (pe_call GT hr (by rfl) mT kT bT .nil pass0 (pa_cons (pv 0) (pa_cons pe_int pa_nil))) (pa_cons (pv 4)
            (pa_cons (pe_call GW hr (by rfl) mW kW bW .nil pass0 (pa_cons (pv 0) pa_nil)) pa_nil)))))) (pe_call GT hr (by rfl) mT kT bT .nil pass0 (pa_cons (pv 0) (pa_cons pe_int pa_nil))) (fun _ _ => rfl)))
        (pss_one (ps_expr (pe_bm PySem.F.plainAttrs_list PySem.F.slot_list_append PySem.F.type_list_append mt_append (pv 3) (pa_cons (pe_callB (call_max2 rfl) (by rfl) X.max (by decide +kernel) (pa_cons pe_int (pa_cons (pe_op op_add (pe_op op_mul (pv 4) (pv 2)) (pv 5)) pa_nil))) pa_nil))))))
      (pss_cons (ps_if (pt_cmpR op_eq (pe_call GT hr (by rfl) mT kT bT .nil pass0 (pa_cons (pv 0) (pa_cons pe_int pa_nil))) pe_int (nomark _))
          (pss_one (ps_ret (pe_call GM hr (by rfl) mM kM bM .nil pass0 (pa_cons (pv 0) (pa_cons (pe_callB call_len_seq (by rfl) X.len PySem.boot_len (pa_cons (pv 1) pa_nil)) pa_nil))))) pss_nil)
      (pss_one (ps_ret (pe_callTy call_tuple_of (by rfl) X.tup bt_tuple (pa_cons (pe_lc (own := [("_law_number", 4)]) (g := gName 4) (tt := tYes) rfl scRoom.nd (pi_list (pv 3)) (blkOk_by (own := [("_law_number", 4)]) (N := nR) (sc := defScope sRoom) (by decide +kernel))
        (fun _ _ _ _ _ => pg_name (i := 4) scRoom.nd rfl (Or.inl rfl)) (fun _ _ _ _ _ => pts_nil)
        (fun _ _ _ _ _ => pe_callB (call_min2 rfl) (by rfl) X.min (by decide +kernel) (pa_cons (pe_op op_pow pe_int pe_int) (pa_cons (pv 4) pa_nil)))) pa_nil)))))), ?_⟩
    have npb := box_ne hB hP
    have ten12 : (10 : Int) ^ (12 : Int).toNat = 1000000000000 := by decide
    refine ⟨Nat.zero_le _, fun l nl => ?_⟩
    have nlb := box_new hB nl
    have nlp : p ≠ l := ne_of_none hP nl
    refine ⟨_, rfl, p, rfl, ⟨_, SqT.of (same_upd nl _ _ hP)⟩, ?_⟩
    refine for_tup (xs := xs.map V.int) (fun i σ H' => ∃ y4 y5, σ = [some (.ref b), some (.ref p), some (.int n), some (.ref l), y4, y5] ∧ Kp [b] H H' ∧ BoxAt H' b (c + 8 * (i : Int)) ∧ ∃ zs : List Int, H' l = some (.lst (zs.map V.int)) ∧ zs.length = i ∧ ∀ z ∈ zs, 0 ≤ z)
      ⟨none, none, rfl, fun x o _ e => same_upd nl _ _ e, by simpa using hB.same (same_upd nl), [], upd_same, rfl, fun _ h => nomatch h⟩ (fun i σ H' _ p => ?_) (fun i x σ H3 hx p => ?_) (fun σ H3 p => ?_)
    · obtain ⟨_, _, _, k, _⟩ := p
      exact SqT.of (k _ _ npb hP)
    · obtain ⟨y4, y5, rfl, k3, B3, zs, e3, lz, hz⟩ := p
      have hi : i < xs.length := by
        have := (List.getElem?_eq_some_iff.mp hx).1
        rw [List.length_map] at this
        exact this
      have ex : x = .int xs[i] := by
        rw [List.getElem?_map, List.getElem?_eq_getElem hi] at hx
        exact (Option.some.inj hx).symm
      subst ex
      have hxi := hA xs[i] (List.getElem_mem hi)
      refine ⟨1, rfl, _, rfl, b, _, 7, rfl, B3, by decide, by decide, by omega, fun r1 H4 r10 r11 k4 B4 => ?_⟩
      refine ⟨_, rfl, _, rfl, b, _, rfl, B4, by omega, fun v H5 v0 v1 k5 B5 => ⟨by show 5 ≤ sizeLine; decide, fun t nt => ?_⟩⟩
      have B6 := B5.same (same_upd (o := .lst [.int 0, .int (-1), .int r1, .int xs[i], .int v]) nt)
      have ntb := box_new B5 nt
      refine ⟨_, rfl, b, _, 5, rfl, B6, by decide, by decide, by omega, fun r2 H7 r20 r21 k7 B7 => ?_⟩
      obtain ⟨mo, hmo, m0, m1⟩ : ∃ mo, atI [V.int 0, .int (-1), .int r1, .int xs[i], .int v] r2 = some (.int mo) ∧ -1 ≤ mo ∧ mo ≤ 1000000000000 := by
        have h6 : r2 = 0 ∨ r2 = 1 ∨ r2 = 2 ∨ r2 = 3 ∨ r2 = 4 := by omega
        rcases h6 with z | z | z | z | z
        · rw [z]; exact ⟨_, rfl, by omega, by omega⟩
        · rw [z]; exact ⟨_, rfl, by omega, by omega⟩
        · rw [z]; exact ⟨_, rfl, by omega, by omega⟩
        · rw [z]; exact ⟨_, rfl, by omega, by omega⟩
        · rw [z]; exact ⟨_, rfl, by omega, by omega⟩
      have kk : Kp [b] H3 H7 := fun x o nx e => by
        have e2 := k5 _ _ nx (k4 _ _ nx e)
        refine k7 _ _ nx ?_
        rw [upd_ne (ne_of_none e2 nt)]
        exact e2
      have e7 := kk _ _ nlb e3
      refine ⟨t, _, r2, .int mo, rfl, rfl, SqL.of (k7 _ _ ntb upd_same), hmo, ?_⟩
      refine ⟨_, rfl, .inl ⟨rfl, _, SqL.of e7⟩, _, rfl, _, rfl, xs[i], n, rfl, rfl, .inr ⟨by omega, by omega⟩, _, rfl, _, mo, rfl, rfl, 0, _, rfl, l, _, _, rfl, rfl, e7, ?_, ?_⟩
      · rw [List.length_map]
        exact small1000 (by omega)
      refine ⟨_, _, rfl, fun x o nx e => ?_, ?_, zs ++ [if xs[i] * n + mo > 0 then xs[i] * n + mo else 0], ?_, ?_, fun z hz' => ?_⟩
      · rw [upd_ne (ne_of_none e nl)]
        exact kk _ _ nx (k3 _ _ nx e)
      · obtain ⟨ys, h1, h2⟩ := B7
        refine BoxAt.le (c := c + 8 * (i : Int) + 1 + 6 + 1) ⟨ys, ?_, h2⟩ (by omega)
        rw [upd_ne (fun z => nlb (by rw [z]; exact List.mem_singleton.mpr rfl))]
        exact h1
      · rw [upd_same, List.map_append]
        rfl
      · rw [List.length_append, lz]
        rfl
      · rcases List.mem_append.mp hz' with z1 | z1
        · exact hz z z1
        · rw [List.mem_singleton.mp z1]
          split <;> omega
    · obtain ⟨y4, y5, rfl, k3, B3, zs, e3, lz, hz⟩ := p
      rw [List.length_map] at lz B3
      refine ⟨_, rfl, b, _, 3, rfl, B3, by decide, by decide, by omega, fun r H4 r0 r1 k4 B4 => ⟨rfl, _, rfl, ite2 (fun e => ?_) (fun e => ?_)⟩⟩
      · refine ⟨_, rfl, _, rfl, p, _, rfl, .inr (SqT.of (k4 _ _ npb (k3 _ _ npb hP))), b, _, xs.length, by rw [List.length_map]; rfl, B4, by omega, by omega, fun p' ys H6 A6 L6 k6 B6 np6 e6 => ?_⟩
        exact q p' ys H6 A6 L6 ((k3.trans k4).trans k6) (B6.le (by omega)) (box_free B4 (k3.trans k4) np6) e6
      · have e4 := k4 _ _ nlb e3
        refine ⟨_, rfl, l, rfl, ⟨_, SqL.of e4⟩, fun D nD => ?_⟩
        refine lc_list (K := K) (xs := zs.map V.int) (fun i H' => Same H4 H' ∧ ∃ us : List Int, H' D = some (.lst (us.map V.int)) ∧ us.length = i ∧ Amt us) ⟨same_upd nD, [], upd_same, rfl, fun _ h => nomatch h⟩ (fun i H' _ p => SqL.of (p.1 _ _ e4)) (fun i x H5 hx p => ?_) (fun H5 p => ?_)
        · obtain ⟨p1, us, p2, p3, p4⟩ := p
          have hi : i < zs.length := by
            have := (List.getElem?_eq_some_iff.mp hx).1
            rw [List.length_map] at this
            exact this
          have ex : x = .int zs[i] := by
            rw [List.getElem?_map, List.getElem?_eq_getElem hi] at hx
            exact (Option.some.inj hx).symm
          subst ex
          have hzi := hz zs[i] (List.getElem_mem hi)
          refine ⟨rfl, ?_⟩
          refine ⟨10, 12, rfl, rfl, ⟨by decide, by decide, by decide⟩, _, rfl, _, zs[i], rfl, _, p2, ?_, fun x o e5 => ?_, us ++ [if zs[i] < (10 : Int) ^ (12 : Int).toNat then zs[i] else (10 : Int) ^ (12 : Int).toNat], ?_, ?_, fun z hz' => ?_⟩
          · rw [List.length_map, p3]
            exact small1000 (by omega)
          · rw [upd_ne (ne_of_none e5 nD)]
            exact p1 _ _ e5
          · rw [upd_same, List.map_append]
            rfl
          · rw [List.length_append, p3]
            rfl
          · rcases List.mem_append.mp hz' with z1 | z1
            · exact p4 z z1
            · rw [List.mem_singleton.mp z1, ten12]
              split <;> omega
        · obtain ⟨p1, us, p2, p3, p4⟩ := p
          rw [List.length_map] at p3
          refine ⟨D, _, rfl, .inl ⟨SqL.of p2, fun p' np' => ?_⟩⟩
          have s6 := p1.trans (same_upd (o := .tup (us.map V.int)) np')
          exact q p' us _ p4 (by omega) (fun x o nx e => s6 _ _ (k4 _ _ nx (k3 _ _ nx e))) ((B4.same s6).le (by omega)) (box_free B4 (k3.trans k4) (p1.free np')) upd_same
end
end My

namespace My
open PySem PySem.Spec PyProof.Rows L2 GX GxR
abbrev sLaw : Stmt := topS 13
abbrev nL : List Str := ["_law_script", "_law_box_here", "_law_want_here", "_law_n", "_law_room_here", "_law_found", "_law_number"]
theorem scLaw : FnScope nL ["_law_script"] (defScope sLaw) := ⟨rfl, rfl, rfl, by decide +kernel, rfl, by decide +kernel, by decide +kernel⟩
theorem quots_ne : ∀ xs ys : List Int, xs.length = ys.length → (∃ x ∈ xs, 0 < x) → quots xs ys ≠ []
  | [], _, _, ⟨_, h, _⟩ => by cases h
  | x :: xs, y :: ys, hl, ⟨z, hz, h0⟩ => by
    show (if 0 < x then y / x :: quots xs ys else quots xs ys) ≠ []
    by_cases hx : 0 < x
    · rw [if_pos hx]
      exact List.cons_ne_nil _ _
    · rw [if_neg hx]
      rcases List.mem_cons.mp hz with e | e
      · rw [e] at h0
        exact absurd h0 hx
      · exact quots_ne xs ys (by simpa using hl) ⟨z, e, h0⟩
theorem fits_most : ∀ (xs ys : List Int) (m : Int), (∀ x ∈ xs, 0 ≤ x) → (∀ y ∈ ys, 0 ≤ y) → (∀ z ∈ quots xs ys, m ≤ z) → fitN xs m ys = true
  | [], _, _, _, _, _ => rfl
  | _ :: _, [], _, _, _, _ => rfl
  | x :: xs, y :: ys, m, hx, hy, hq => by
    have x0 := hx x List.mem_cons_self
    have y0 := hy y List.mem_cons_self
    have hsub : ∀ z ∈ quots xs ys, m ≤ z := fun z hz => hq z (by
      show z ∈ (if 0 < x then y / x :: quots xs ys else quots xs ys)
      split
      · exact List.mem_cons_of_mem _ hz
      · exact hz)
    have ih := fits_most xs ys m (fun z h => hx z (List.mem_cons_of_mem _ h)) (fun z h => hy z (List.mem_cons_of_mem _ h)) hsub
    have h1 : x * m ≤ y := by
      by_cases hp : 0 < x
      · have h2 : m ≤ y / x := hq _ (by
          show y / x ∈ (if 0 < x then y / x :: quots xs ys else quots xs ys)
          rw [if_pos hp]
          exact List.mem_cons_self)
        have h3 := (Int.le_ediv_iff_mul_le hp).mp h2
        rw [Int.mul_comm] at h3
        exact h3
      · have : x = 0 := by omega
        rw [this, Int.zero_mul]
        exact y0
    unfold fitN at ih ⊢
    rw [List.zipWith_cons_cons, List.all_cons, ih, decide_eq_true h1]
    rfl
theorem fits_no_more : ∀ (xs ys : List Int) (m : Int), m ∈ quots xs ys → fitN xs (m + 1) ys = false
  | [], _, _, h => by cases h
  | _ :: _, [], _, h => by cases h
  | x :: xs, y :: ys, m, h => by
    have h' : m ∈ (if 0 < x then y / x :: quots xs ys else quots xs ys) := h
    unfold fitN
    rw [List.zipWith_cons_cons, List.all_cons]
    by_cases hp : 0 < x
    · rw [if_pos hp] at h'
      rcases List.mem_cons.mp h' with e | e
      · have h3 : ¬ x * (m + 1) ≤ y := fun z => by
          rw [Int.mul_comm] at z
          have h4 := (Int.le_ediv_iff_mul_le hp).mpr z
          omega
        rw [decide_eq_false h3]
        rfl
      · have ih := fits_no_more xs ys m e
        unfold fitN at ih
        rw [ih, Bool.and_false]
    · rw [if_neg hp] at h'
      have ih := fits_no_more xs ys m h'
      unfold fitN at ih
      rw [ih, Bool.and_false]
theorem quots_nn : ∀ (xs ys : List Int), (∀ y ∈ ys, 0 ≤ y) → ∀ z ∈ quots xs ys, 0 ≤ z
  | [], _, _, _, h => by cases h
  | _ :: _, [], _, _, h => by cases h
  | x :: xs, y :: ys, hy, z, h => by
    have h' : z ∈ (if 0 < x then y / x :: quots xs ys else quots xs ys) := h
    by_cases hp : 0 < x
    · rw [if_pos hp] at h'
      rcases List.mem_cons.mp h' with e | e
      · rw [e]
        exact Int.ediv_nonneg (hy y List.mem_cons_self) (by omega)
      · exact quots_nn xs ys (fun w hw => hy w (List.mem_cons_of_mem _ hw)) z e
    · rw [if_neg hp] at h'
      exact quots_nn xs ys (fun w hw => hy w (List.mem_cons_of_mem _ hw)) z h'
section
variable {P : Program} {w : World} {K : PySem.W.Frag} {mg : Str → Option Value} {base : Heap}
def spLaw (K : PySem.W.Frag) (Ts : List Addr) : Sp := fun vs H Q _ => ∃ (a : Addr) (ns : List Int), vs = [.ref a] ∧ SqL K H a (ns.map V.int) ∧ ns.length ≤ 63 ∧ (∀ T ∈ Ts, TabG H T) ∧ ∀ H', Q (.bl true) H'
theorem ok_law {f fC fT fA fN fR fF fS fL : Addr} {fd fdC fdT fdA fdN fdR fdF fdS fdL : FuncData} (F : Fun K "law" "law" sLaw f fd) (X : Txt mg)
    (GC : FnOk P w K mg base CX0 4 fC fdC ["_law_script"] (spCells K)) (mC : mg "_law_cells" = some (.ref fC)) (kC : PySem.W.keepIn K (.ref fC) = true) (bC : Binds K fdC ["_law_script"] [])
    (GT : FnOk P w K mg base CX0 4 fT fdT ["_law_box_here", "_law_many"] spTake) (mT : mg "_law_take" = some (.ref fT)) (kT : PySem.W.keepIn K (.ref fT) = true) (bT : Binds K fdT ["_law_box_here", "_law_many"] [])
    (GA : FnOk P w K mg base CX0 4 fA fdA ["_law_found", "_law_due"] (spAlike 3)) (mA : mg "_law_alike" = some (.ref fA)) (kA : PySem.W.keepIn K (.ref fA) = true) (bA : Binds K fdA ["_law_found", "_law_due"] [])
    (GN : FnOk P w K mg base CX0 4 fN fdN ["_law_box_here", "_law_wares"] spWant) (mN : mg "_law_want" = some (.ref fN)) (kN : PySem.W.keepIn K (.ref fN) = true) (bN : Binds K fdN ["_law_box_here", "_law_wares"] [])
    (GR : FnOk P w K mg base CX0 4 fR fdR ["_law_box_here", "_law_want_here", "_law_n"] spRoom) (mR : mg "_law_room" = some (.ref fR)) (kR : PySem.W.keepIn K (.ref fR) = true) (bR : Binds K fdR ["_law_box_here", "_law_want_here", "_law_n"] [])
    (GF : FnOk P w K mg base CX0 4 fF fdF ["_law_want_here", "_law_n", "_law_room_here"] spLFits) (mF : mg "_law_fits" = some (.ref fF)) (kF : PySem.W.keepIn K (.ref fF) = true) (bF : Binds K fdF ["_law_want_here", "_law_n", "_law_room_here"] [])
    (GS : FnOk P w K mg base CX0 4 fS fdS ["one", "n"] (spTimesS K)) (mS : mg "amount_times" = some (.ref fS)) (kS : PySem.W.keepIn K (.ref fS) = true) (bS : Binds K fdS ["one", "n"] [])
    (GL : FnOk P w K mg base CX0 4 fL fdL ["want", "room"] (spMost K)) (mL : mg "most_times" = some (.ref fL)) (kL : PySem.W.keepIn K (.ref fL) = true) (bL : Binds K fdL ["want", "room"] []) :
    FnOk P w K mg base CX0 5 f fd ["_law_script"] (spLaw K []) := by
  refine F.ok scLaw (fun vs H Q E h => ?_) (fun cdv A outer s H vs Q E hr h => ?_)
  · obtain ⟨a, ns, rfl, _⟩ := h
    rfl
  · obtain ⟨a, ns, rfl, hS, hl, hT, q⟩ := h
    refine ⟨_, pss_cons (ps_for PassesOwn.never rfl (pi_list (pe_call GC hr (by rfl) mC kC bC .nil pass0 (pa_cons (pv 0) pa_nil))) (pg_name (i := 1) scLaw.nd rfl (.inl rfl))
        (pss_cons (ps_set (i := 2) scLaw.nd rfl (.inl rfl) (pe_call GN hr (by rfl) mN kN bN .nil pass0 (pa_cons (pv 1) (pa_cons (pe_op op_add pe_int (pe_call GT hr (by rfl) mT kT bT .nil pass0 (pa_cons (pv 1) (pa_cons pe_int pa_nil)))) pa_nil))))
        (pss_cons (ps_set (i := 3) scLaw.nd rfl (.inr rfl) (pe_ix ix_list (pe_lst (pa_cons (pe_call GT hr (by rfl) mT kT bT .nil pass0 (pa_cons (pv 1) (pa_cons pe_int pa_nil)))
            (pa_cons (pe_call GT hr (by rfl) mT kT bT .nil pass0 (pa_cons (pv 1) (pa_cons (pe_op op_add (pe_op op_pow pe_int pe_int) pe_int) pa_nil))) pa_nil))) (pe_call GT hr (by rfl) mT kT bT .nil pass0 (pa_cons (pv 1) (pa_cons pe_int pa_nil))) (fun _ _ => rfl)))
        (pss_cons (ps_if (pt_not (pt_val (pe_call GA hr (by rfl) mA kA bA .nil pass0 (pa_cons (pe_call GS hr (by rfl) mS kS bS .nil pass0 (pa_cons (pv 2) (pa_cons (pv 3) pa_nil)))
            (pa_cons (pe_callTy call_tuple_of (by rfl) X.tup bt_tuple (pa_cons (pe_lc (own := [("_law_number", 6)]) (g := gName 6) (tt := tYes) rfl scLaw.nd (pi_tup (pv 2)) (blkOk_by (own := [("_law_number", 6)]) (N := nL) (sc := defScope sLaw) (by decide +kernel))
              (fun _ _ _ _ _ => pg_name (i := 6) scLaw.nd rfl (Or.inl rfl)) (fun _ _ _ _ _ => pts_nil) (fun _ _ _ _ _ => pe_op op_mul (pv 6) (pv 3))) pa_nil)) pa_nil)))))
            (pss_one (ps_ret pe_bl)) pss_nil)
        (pss_cons (ps_set (i := 4) scLaw.nd rfl (.inl rfl) (pe_call GR hr (by rfl) mR kR bR .nil pass0 (pa_cons (pv 1) (pa_cons (pv 2) (pa_cons (pe_ix ix_list (pe_lst (pa_cons (pv 3) (pa_cons (pe_call GT hr (by rfl) mT kT bT .nil pass0 (pa_cons (pv 1) (pa_cons pe_int pa_nil))) pa_nil)))
            (pe_call GT hr (by rfl) mT kT bT .nil pass0 (pa_cons (pv 1) (pa_cons pe_int pa_nil))) (fun _ _ => rfl)) pa_nil)))))
        (pss_cons (ps_set (i := 5) scLaw.nd rfl (.inl rfl) (pe_call GL hr (by rfl) mL kL bL .nil pass0 (pa_cons (pv 2) (pa_cons (pv 4) pa_nil))))
        (pss_cons (ps_if (PW.pt (pw_or (pt_not (pt_val (pe_isi X (by rfl) (by rfl) X.int bt_int (pv 5)))) (pw_or (pt_val (pe_isi X (by rfl) (by rfl) X.bool bt_bool (pv 5))) (pw_or1 (pt_cmpR op_lt (pv 5) pe_int (nomark _))))))
            (pss_one (ps_ret pe_bl)) pss_nil)
        (pss_one (ps_if (PW.pt (pw_or (pt_not (pt_val (pe_call GF hr (by rfl) mF kF bF .nil pass0 (pa_cons (pv 2) (pa_cons (pv 5) (pa_cons (pv 4) pa_nil)))))) (pw_or1 (pt_val (pe_call GF hr (by rfl) mF kF bF .nil pass0 (pa_cons (pv 2) (pa_cons (pe_op op_add (pv 5) pe_int) (pa_cons (pv 4) pa_nil))))))))
            (pss_one (ps_ret pe_bl)) pss_nil)))))))))
      (pss_one (ps_ret pe_bl)), ?_⟩
    refine ⟨_, rfl, a, ns, rfl, hS, hl, fun H1 D bs B hb63 => ⟨D, rfl, ⟨_, SqL.of B.lst⟩, ?_⟩⟩
    refine for_list (xs := bs.map V.ref) (fun i σ H' => ∃ y1 y2 y3 y4 y5 y6, σ = [some (.ref a), y1, y2, y3, y4, y5, y6] ∧ GoodS [] D bs i H') ⟨none, none, none, none, none, none, rfl, fun T h => TabG.same B.same (hT T h), B.lst, fun j b _ h2 => B.box b (List.mem_of_getElem? h2)⟩ (fun i σ H' _ p => ?_) (fun i x σ H0 hx p => ?_) (fun σ H' p => ?_)
    · obtain ⟨_, _, _, _, _, _, _, g⟩ := p
      exact SqL.of g.lst
    · obtain ⟨y1, y2, y3, y4, y5, y6, rfl, g⟩ := p
      obtain ⟨b, hb, rfl⟩ : ∃ b, bs[i]? = some b ∧ x = .ref b := by
        rw [List.getElem?_map] at hx
        cases hb : bs[i]? with
        | none => rw [hb] at hx; cases hx
        | some b =>
          rw [hb] at hx
          exact ⟨b, rfl, (Option.some.inj hx).symm⟩
      have W0 := g.inn hb B.nd B.no
      -- want
      refine ⟨_, rfl, _, rfl, b, 0, 8, rfl, W0.box, by decide, by decide, by decide, fun r H1 r0 r1 k1 B1 => ⟨1, r, rfl, rfl, ?_⟩⟩
      have W1 := W0.asked k1 B1
      obtain ⟨n, hn⟩ : ∃ n : Nat, 1 + r = (n : Int) := ⟨(1 + r).toNat, by omega⟩
      have hnv : V.int (1 + r) = V.int (n : Int) := congrArg V.int hn
      refine ⟨b, _, n, congrArg (fun v => [V.ref b, v]) hnv, W1.box, by omega, by omega, by omega, fun p1 xs H2 A1 L1 pos k2 B2 np1 e1 => ?_⟩
      have W2 := W1.new np1 e1 (W1.asked k2 B2)
      -- n
      refine ⟨_, rfl, b, _, 61, rfl, W2.box, by decide, by decide, by omega, fun r3 H3 r30 r31 k3 B3 => ?_⟩
      have W3 := W2.asked k3 B3
      refine ⟨_, rfl, 10, 6, rfl, rfl, ⟨by decide, by decide, by decide⟩, _, 1, rfl, rfl, b, _, _, rfl, W3.box, by decide, by decide, by omega, fun r4 H4 r40 r41 k4 B4 => ⟨by show 2 ≤ sizeLine; decide, fun l1 nl1 => ?_⟩⟩
      have W4 := (W3.asked k4 B4).laid (o := .lst [.int r3, .int r4]) nl1
      generalize upd H4 l1 (.lst [.int r3, .int r4]) = H5 at W4 ⊢
      refine ⟨_, rfl, b, _, 2, rfl, W4.box, by decide, by decide, by omega, fun r5 H6 r50 r51 k6 B6 => ?_⟩
      have W6 := W4.asked k6 B6
      have ten6 : (10 : Int) ^ (6 : Int).toNat + 1 = 1000001 := by decide
      rw [ten6] at r41
      obtain ⟨m, hm, hm0, hm1⟩ : ∃ m, atI [V.int r3, .int r4] r5 = some (.int m) ∧ 0 ≤ m ∧ m ≤ 1000001 := by
        have h6 : r5 = 0 ∨ r5 = 1 := by omega
        rcases h6 with z | z
        · rw [z]; exact ⟨_, rfl, by omega, by omega⟩
        · rw [z]; exact ⟨_, rfl, by omega, by omega⟩
      refine ⟨l1, _, r5, .int m, rfl, rfl, SqL.of (W6.obj (l1, .lst [.int r3, .int r4]) (by simp)), hm, ?_⟩
      -- the first look
      refine ⟨_, rfl, _, rfl, p1, m, xs, rfl, SqT.of (W6.obj (p1, .tup (xs.map V.int)) (by simp)), by omega, hm0, by omega, fun u1 H7 k7 nu1 e7 => ?_⟩
      have W7 := W6.new nu1 e7 (W6.same k7)
      have at7 := W7.obj (p1, .tup (xs.map V.int)) (by simp)
      refine ⟨_, rfl, p1, rfl, ⟨_, SqT.of at7⟩, fun D2 nD2 => ?_⟩
      refine lc_tup (K := K) (xs := xs.map V.int) (fun i H' => Same H7 H' ∧ H' D2 = some (.lst (((xs.map (· * m)).take i).map V.int))) ⟨same_upd nD2, upd_same⟩ (fun i H' _ p => SqT.of (p.1 _ _ at7)) (fun j x H5 hx p => ?_) (fun H8 p => ?_)
      · obtain ⟨q1, q2⟩ := p
        have hj : j < xs.length := by
          have := (List.getElem?_eq_some_iff.mp hx).1
          rw [List.length_map] at this
          exact this
        have ex : x = .int xs[j] := by
          rw [List.getElem?_map, List.getElem?_eq_getElem hj] at hx
          exact (Option.some.inj hx).symm
        subst ex
        refine ⟨rfl, ?_⟩
        refine ⟨_, rfl, _, rfl, xs[j], m, rfl, rfl, .inr ⟨by omega, by omega⟩, _, q2, ?_, fun x o e => ?_, ?_⟩
        · rw [List.length_map, List.length_take, List.length_map]
          exact small1000 (by omega)
        · rw [upd_ne (ne_of_none e nD2)]
          exact q1 _ _ e
        · rw [upd_same, List.take_add_one, List.getElem?_map, List.getElem?_eq_getElem hj, List.map_append]
          rfl
      obtain ⟨q1, q2⟩ := p
      rw [List.take_of_length_le (by rw [List.length_map, List.length_map]; exact Nat.le_refl _)] at q2
      refine ⟨D2, _, rfl, .inl ⟨SqL.of q2, fun p3 np3 => ?_⟩⟩
      have W8 := (W7.same q1).laid (o := .tup ((xs.map (· * m)).map V.int)) np3
      generalize upd H8 p3 (.tup ((xs.map (· * m)).map V.int)) = H9 at W8 ⊢
      refine ⟨_, _, rfl, al_tup (W8.obj (u1, .tup ((xs.map (· * m)).map V.int)) (by simp)) (W8.obj (p3, .tup ((xs.map (· * m)).map V.int)) (by simp)) (by rw [List.length_map]; omega), fun Ha sa => ⟨true, rfl, iteF ?_⟩⟩
      have Wa := W8.same sa
      -- room
      refine ⟨_, rfl, _, rfl, _, rfl, _, rfl, b, _, 70, rfl, Wa.box, by decide, by decide, by omega, fun r6 Hb r60 r61 kb Bb => ⟨by show 2 ≤ sizeLine; decide, fun l2 nl2 => ?_⟩⟩
      have Wb := (Wa.asked kb Bb).laid (o := .lst [.int m, .int r6]) nl2
      generalize upd Hb l2 (.lst [.int m, .int r6]) = Hc at Wb ⊢
      refine ⟨_, rfl, b, _, 2, rfl, Wb.box, by decide, by decide, by omega, fun r7 Hd r70 r71 kd Bd => ?_⟩
      have Wd1 := Wb.asked kd Bd
      obtain ⟨m2, hm2, hm20, hm21⟩ : ∃ m2, atI [V.int m, .int r6] r7 = some (.int m2) ∧ 0 ≤ m2 ∧ m2 ≤ 1000001 := by
        have h6 : r7 = 0 ∨ r7 = 1 := by omega
        rcases h6 with z | z
        · rw [z]; exact ⟨_, rfl, by omega, by omega⟩
        · rw [z]; exact ⟨_, rfl, by omega, by omega⟩
      refine ⟨l2, _, r7, .int m2, rfl, rfl, SqL.of (Wd1.obj (l2, .lst [.int m, .int r6]) (by simp)), hm2, b, p1, _, m2, xs, rfl, Wd1.box, Wd1.obj (p1, .tup (xs.map V.int)) (by simp), A1, by omega, hm20, by omega, by omega, fun p2 ys He A2 L2 ke Be np2 e2 => ?_⟩
      have We := Wd1.new np2 e2 (Wd1.asked ke Be)
      have px : ∀ x ∈ xs, 0 ≤ x := fun x h => (A1 x h).1
      have py : ∀ y ∈ ys, 0 ≤ y := fun y h => (A2 y h).1
      -- found
      refine ⟨_, rfl, _, rfl, p1, p2, xs, ys, rfl, SqT.of (We.obj (p1, .tup (xs.map V.int)) (by simp)), SqT.of (We.obj (p2, .tup (ys.map V.int)) (by simp)), L2.symm, by omega, A1, quots_ne xs ys L2.symm pos, fun mo Hf sf hmo hall => ?_⟩
      have Wf := We.same sf
      have mo0 := quots_nn xs ys py mo hmo
      have tx : ∀ H, TyX K H (.int mo) (.type "int") := fun H => .base (.int mo)
      refine ⟨_, rfl, _, _, _, _, _, rfl, .ty _, tx _, kit_ty (r := true) (by decide +kernel), true, rfl, iteF ?_⟩
      refine ⟨_, rfl, _, _, _, _, _, rfl, .ty _, tx _, kit_ty (r := false) (by decide +kernel), false, rfl, iteF ?_⟩
      refine ⟨_, rfl, mo, 0, rfl, rfl, false, congrArg V.bl (decide_eq_false (by omega)), iteF ?_⟩
      -- the second look
      refine ⟨_, rfl, _, rfl, _, rfl, p1, p2, mo, xs, ys, rfl, Wf.obj (p1, .tup (xs.map V.int)) (by simp), Wf.obj (p2, .tup (ys.map V.int)) (by simp), L2.symm, by omega, A1, fun Hg sg => ⟨true, congrArg V.bl (fits_most xs ys mo px py hall), iteF ?_⟩⟩
      have Wg := Wf.same sg
      refine ⟨_, rfl, _, rfl, mo, 1, rfl, rfl, _, rfl, p1, p2, mo + 1, xs, ys, rfl, Wg.obj (p1, .tup (xs.map V.int)) (by simp), Wg.obj (p2, .tup (ys.map V.int)) (by simp), L2.symm, by omega, A1, fun Hh sh => ⟨false, congrArg V.bl (fits_no_more xs ys mo hmo), iteF ⟨_, _, _, _, _, _, rfl, g.out (Wg.same sh) fun f hf => ?_⟩⟩⟩
      simp only [List.mem_cons]
      simp [hf]
    · exact q _
end
end My

namespace My
open PySem PySem.Spec PyProof.Rows L2 GX GxR
theorem all_mk {l : PySem.W.OpenLaw} {q : Program} {loose : List Str} {mean : ExcName → Option Value} {w : World} {K : PySem.W.Frag} {h : Heap} {mg mb : Str → Option Value} {fa f1 f2 f3 f4 f5 f6 f7 f8 f9 f10 f11 f12 : Addr} (X : K.In h) (Z : PyProof.Rows.Top q loose mean mg mb h) (hfa : mg "law" = some (.ref fa))
    {od1 an1 od2 an2 od3 an3 od4 an4 od5 an5 od6 an6 od7 an7 od8 an8 od9 an9 od10 an10 od11 an11 od12 an12 : Option Addr} {sl1 sl2 sl3 sl4 sl5 sl6 sl7 sl8 sl9 sl10 sl11 sl12 : Array (Option Value)} {oc1 kV1 dc1 pm1 ct1 oc2 kV2 dc2 pm2 ct2 oc3 kV3 dc3 pm3 ct3 oc4 kV4 dc4 pm4 ct4 oc5 kV5 dc5 pm5 ct5 oc6 kV6 dc6 pm6 ct6 oc7 kV7 dc7 pm7 ct7 oc8 kV8 dc8 pm8 ct8 oc9 kV9 dc9 pm9 ct9 oc10 kV10 dc10 pm10 ct10 oc11 kV11 dc11 pm11 ct11 oc12 kV12 dc12 pm12 ct12 cd1 cd2 cd3 cd4 cd5 cd6 cd7 cd8 cd9 cd10 cd11 cd12 : Value}
    (a1 : PySem.W.nsIn K mainGlobals "amount_times" = some (some (.ref f1))) (l1 : K.lookup f1 = some ⟨oc1, od1, .func (PySem.W.fnOf "amount_times" "amount_times" (defArgs sTimes) (defBody sTimes) (defScope sTimes) .none kV1 dc1 pm1 an1 cd1 ct1), sl1⟩) (e1 : PySem.W.codeIn K cd1 "amount_times" = true) (k1 : PySem.W.keepIn K (.ref f1) = true)
    (a2 : PySem.W.nsIn K mainGlobals "most_times" = some (some (.ref f2))) (l2 : K.lookup f2 = some ⟨oc2, od2, .func (PySem.W.fnOf "most_times" "most_times" (defArgs sMost) (defBody sMost) (defScope sMost) .none kV2 dc2 pm2 an2 cd2 ct2), sl2⟩) (e2 : PySem.W.codeIn K cd2 "most_times" = true) (k2 : PySem.W.keepIn K (.ref f2) = true)
    (a3 : PySem.W.nsIn K mainGlobals "_law_box" = some (some (.ref f3))) (l3 : K.lookup f3 = some ⟨oc3, od3, .func (PySem.W.fnOf "_law_box" "_law_box" (defArgs sBox) (defBody sBox) (defScope sBox) .none kV3 dc3 pm3 an3 cd3 ct3), sl3⟩) (e3 : PySem.W.codeIn K cd3 "_law_box" = true) (k3 : PySem.W.keepIn K (.ref f3) = true)
    (a4 : PySem.W.nsIn K mainGlobals "_law_take" = some (some (.ref f4))) (l4 : K.lookup f4 = some ⟨oc4, od4, .func (PySem.W.fnOf "_law_take" "_law_take" (defArgs sTake) (defBody sTake) (defScope sTake) .none kV4 dc4 pm4 an4 cd4 ct4), sl4⟩) (e4 : PySem.W.codeIn K cd4 "_law_take" = true) (k4 : PySem.W.keepIn K (.ref f4) = true)
    (a5 : PySem.W.nsIn K mainGlobals "_law_alike" = some (some (.ref f5))) (l5 : K.lookup f5 = some ⟨oc5, od5, .func (PySem.W.fnOf "_law_alike" "_law_alike" (defArgs sAlike) (defBody sAlike) (defScope sAlike) .none kV5 dc5 pm5 an5 cd5 ct5), sl5⟩) (e5 : PySem.W.codeIn K cd5 "_law_alike" = true) (k5 : PySem.W.keepIn K (.ref f5) = true)
    (a6 : PySem.W.nsIn K mainGlobals "_law_wide" = some (some (.ref f6))) (l6 : K.lookup f6 = some ⟨oc6, od6, .func (PySem.W.fnOf "_law_wide" "_law_wide" (defArgs sWide) (defBody sWide) (defScope sWide) .none kV6 dc6 pm6 an6 cd6 ct6), sl6⟩) (e6 : PySem.W.codeIn K cd6 "_law_wide" = true) (k6 : PySem.W.keepIn K (.ref f6) = true)
    (a7 : PySem.W.nsIn K mainGlobals "_law_amount" = some (some (.ref f7))) (l7 : K.lookup f7 = some ⟨oc7, od7, .func (PySem.W.fnOf "_law_amount" "_law_amount" (defArgs sAmount) (defBody sAmount) (defScope sAmount) .none kV7 dc7 pm7 an7 cd7 ct7), sl7⟩) (e7 : PySem.W.codeIn K cd7 "_law_amount" = true) (k7 : PySem.W.keepIn K (.ref f7) = true)
    (a8 : PySem.W.nsIn K mainGlobals "_law_cells" = some (some (.ref f8))) (l8 : K.lookup f8 = some ⟨oc8, od8, .func (PySem.W.fnOf "_law_cells" "_law_cells" (defArgs sCells) (defBody sCells) (defScope sCells) .none kV8 dc8 pm8 an8 cd8 ct8), sl8⟩) (e8 : PySem.W.codeIn K cd8 "_law_cells" = true) (k8 : PySem.W.keepIn K (.ref f8) = true)
    (a9 : PySem.W.nsIn K mainGlobals "_law_want" = some (some (.ref f9))) (l9 : K.lookup f9 = some ⟨oc9, od9, .func (PySem.W.fnOf "_law_want" "_law_want" (defArgs sWant) (defBody sWant) (defScope sWant) .none kV9 dc9 pm9 an9 cd9 ct9), sl9⟩) (e9 : PySem.W.codeIn K cd9 "_law_want" = true) (k9 : PySem.W.keepIn K (.ref f9) = true)
    (a10 : PySem.W.nsIn K mainGlobals "_law_room" = some (some (.ref f10))) (l10 : K.lookup f10 = some ⟨oc10, od10, .func (PySem.W.fnOf "_law_room" "_law_room" (defArgs sRoom) (defBody sRoom) (defScope sRoom) .none kV10 dc10 pm10 an10 cd10 ct10), sl10⟩) (e10 : PySem.W.codeIn K cd10 "_law_room" = true) (k10 : PySem.W.keepIn K (.ref f10) = true)
    (a11 : PySem.W.nsIn K mainGlobals "_law_fits" = some (some (.ref f11))) (l11 : K.lookup f11 = some ⟨oc11, od11, .func (PySem.W.fnOf "_law_fits" "_law_fits" (defArgs sLFits) (defBody sLFits) (defScope sLFits) .none kV11 dc11 pm11 an11 cd11 ct11), sl11⟩) (e11 : PySem.W.codeIn K cd11 "_law_fits" = true) (k11 : PySem.W.keepIn K (.ref f11) = true)
    (a12 : PySem.W.nsIn K mainGlobals "law" = some (some (.ref f12))) (l12 : K.lookup f12 = some ⟨oc12, od12, .func (PySem.W.fnOf "law" "law" (defArgs sLaw) (defBody sLaw) (defScope sLaw) .none kV12 dc12 pm12 an12 cd12 ct12), sl12⟩) (e12 : PySem.W.codeIn K cd12 "law" = true) (k12 : PySem.W.keepIn K (.ref f12) = true)
    (z1 : PySem.W.nsIn K mainGlobals "len" = some none)
    (z2 : PySem.W.nsIn K mainGlobals "abs" = some none)
    (z3 : PySem.W.nsIn K mainGlobals "isinstance" = some none)
    (z4 : PySem.W.nsIn K mainGlobals "list" = some none)
    (z5 : PySem.W.nsIn K mainGlobals "tuple" = some none)
    (z6 : PySem.W.nsIn K mainGlobals "zip" = some none)
    (z7 : PySem.W.nsIn K mainGlobals "all" = some none)
    (z8 : PySem.W.nsIn K mainGlobals "str" = some none)
    (z9 : PySem.W.nsIn K mainGlobals "int" = some none)
    (z10 : PySem.W.nsIn K mainGlobals "bool" = some none)
    (z11 : PySem.W.nsIn K mainGlobals "max" = some none)
    (z12 : PySem.W.nsIn K mainGlobals "min" = some none)
    (z13 : PySem.W.nsIn K mainGlobals "range" = some none) :
    LamX.LawAtS l w K CX0 5 63 "_law_script" mg fa h := by
  have G := Z.g
  have e := hfa.symm.trans (PySem.W.mg_of X G a12)
  cases e
  have F1 := fun_mk (st := sTimes) l1 e1 k1
  have b1 := F1.binds (ps := ["one", "n"]) (fun _ _ _ _ _ _ us hl => match us, hl with | [_, _], _ => rfl)
  have m1 := PySem.W.mg_of X G a1
  have F2 := fun_mk (st := sMost) l2 e2 k2
  have b2 := F2.binds (ps := ["want", "room"]) (fun _ _ _ _ _ _ us hl => match us, hl with | [_, _], _ => rfl)
  have m2 := PySem.W.mg_of X G a2
  have F3 := fun_mk (st := sBox) l3 e3 k3
  have b3 := F3.binds (ps := ["_law_script", "_law_k"]) (fun _ _ _ _ _ _ us hl => match us, hl with | [_, _], _ => rfl)
  have m3 := PySem.W.mg_of X G a3
  have F4 := fun_mk (st := sTake) l4 e4 k4
  have b4 := F4.binds (ps := ["_law_box_here", "_law_many"]) (fun _ _ _ _ _ _ us hl => match us, hl with | [_, _], _ => rfl)
  have m4 := PySem.W.mg_of X G a4
  have F5 := fun_mk (st := sAlike) l5 e5 k5
  have b5 := F5.binds (ps := ["_law_found", "_law_due"]) (fun _ _ _ _ _ _ us hl => match us, hl with | [_, _], _ => rfl)
  have m5 := PySem.W.mg_of X G a5
  have F6 := fun_mk (st := sWide) l6 e6 k6
  have b6 := F6.binds (ps := ["_law_box_here"]) (fun _ _ _ _ _ _ us hl => match us, hl with | [_], _ => rfl)
  have m6 := PySem.W.mg_of X G a6
  have F7 := fun_mk (st := sAmount) l7 e7 k7
  have b7 := F7.binds (ps := ["_law_box_here", "_law_wares"]) (fun _ _ _ _ _ _ us hl => match us, hl with | [_, _], _ => rfl)
  have m7 := PySem.W.mg_of X G a7
  have F8 := fun_mk (st := sCells) l8 e8 k8
  have b8 := F8.binds (ps := ["_law_script"]) (fun _ _ _ _ _ _ us hl => match us, hl with | [_], _ => rfl)
  have m8 := PySem.W.mg_of X G a8
  have F9 := fun_mk (st := sWant) l9 e9 k9
  have b9 := F9.binds (ps := ["_law_box_here", "_law_wares"]) (fun _ _ _ _ _ _ us hl => match us, hl with | [_, _], _ => rfl)
  have m9 := PySem.W.mg_of X G a9
  have F10 := fun_mk (st := sRoom) l10 e10 k10
  have b10 := F10.binds (ps := ["_law_box_here", "_law_want_here", "_law_n"]) (fun _ _ _ _ _ _ us hl => match us, hl with | [_, _, _], _ => rfl)
  have m10 := PySem.W.mg_of X G a10
  have F11 := fun_mk (st := sLFits) l11 e11 k11
  have b11 := F11.binds (ps := ["_law_want_here", "_law_n", "_law_room_here"]) (fun _ _ _ _ _ _ us hl => match us, hl with | [_, _, _], _ => rfl)
  have m11 := PySem.W.mg_of X G a11
  have F12 := fun_mk (st := sLaw) l12 e12 k12
  have W : Txt mg := ⟨PySem.W.mg_none_of X G z1, PySem.W.mg_none_of X G z2, PySem.W.mg_none_of X G z3, PySem.W.mg_none_of X G z4, PySem.W.mg_none_of X G z5, PySem.W.mg_none_of X G z6, PySem.W.mg_none_of X G z7, PySem.W.mg_none_of X G z8, PySem.W.mg_none_of X G z9, PySem.W.mg_none_of X G z10, PySem.W.mg_none_of X G z11, PySem.W.mg_none_of X G z12, PySem.W.mg_none_of X G z13⟩
  refine ⟨PySem.W.fnOf "law" "law" (defArgs sLaw) (defBody sLaw) (defScope sLaw) .none kV12 dc12 pm12 an12 cd12 ct12, [], spLaw K [], fun p hp => ?_, fun p hp => ?_, fun p hp => ?_, fun s v => .of_eq rfl, fun H a ns hl _ hT hS => ⟨a, ns, rfl, hS, hl, fun T hm => ?_, fun _ => rfl⟩, fun base _ _ TB => ?_⟩
  · exact (nomatch hp)
  · exact (nomatch hp)
  · exact (nomatch hp)
  · exact (nomatch hm)
  · exact ok_law F12 W (ok_cells F8 W F3 m3 b3) m8 F8.kp b8 (ok_take F4) m4 F4.kp b4 (ok_alikeS F5 W m5 b5 (ok_alikeS F5 W m5 b5 (ok_alikeS F5 W m5 b5 (ok_alike0 F5 W)))) m5 F5.kp b5 (ok_want F9 W (ok_take F4) m4 F4.kp b4 (ok_amount F7 W (ok_wide F6 W F4 m4 b4) F6.kp m6 b6) m7 F7.kp b7) m9 F9.kp b9 (ok_room F10 W (ok_take F4) m4 F4.kp b4 (ok_wide F6 W F4 m4 b4) m6 F6.kp b6 (ok_amount F7 W (ok_wide F6 W F4 m4 b4) F6.kp m6 b6) m7 F7.kp b7) m10 F10.kp b10 (ok_lfits F11 W) m11 F11.kp b11 (ok_times F1 W) m1 F1.kp b1 (ok_most F2 W) m2 F2.kp b2
end My
open PySem PySem.W PyProof.Rows
set_option maxHeartbeats 0 in
theorem PySem.Challenge.cw_clusterhall_k04_so_many_times_holds : PySem.Challenge.rw_clusterhall_k04_so_many_times.Holds := by
  w_on; o_law; k_head; (case hw => w_witness2)
  k_fill
  refine My.walk_tabs (l := PySem.Challenge.rw_clusterhall_k04_so_many_times) (n := 63) (k := 5) (x := "_law_script") rfl (by decide) rfl ⟨rfl, by decide, by decide⟩ (fun w h Y => PySem.W.kIn_of Y) ?F
  case F =>
    intro w mg mb mean fa h KT KX hmg
    refine' My.all_mk KX KT hmg ?a1 ?l1 ?e1 ?k1 ?a2 ?l2 ?e2 ?k2 ?a3 ?l3 ?e3 ?k3 ?a4 ?l4 ?e4 ?k4 ?a5 ?l5 ?e5 ?k5 ?a6 ?l6 ?e6 ?k6 ?a7 ?l7 ?e7 ?k7 ?a8 ?l8 ?e8 ?k8 ?a9 ?l9 ?e9 ?k9 ?a10 ?l10 ?e10 ?k10 ?a11 ?l11 ?e11 ?k11 ?a12 ?l12 ?e12 ?k12 ?z1 ?z2 ?z3 ?z4 ?z5 ?z6 ?z7 ?z8 ?z9 ?z10 ?z11 ?z12 ?z13
    (case a1 => k_is)
    (case l1 => k_is)
    (case e1 => k_is)
    (case k1 => k_is)
    (case a2 => k_is)
    (case l2 => k_is)
    (case e2 => k_is)
    (case k2 => k_is)
    (case a3 => k_is)
    (case l3 => k_is)
    (case e3 => k_is)
    (case k3 => k_is)
    (case a4 => k_is)
    (case l4 => k_is)
    (case e4 => k_is)
    (case k4 => k_is)
    (case a5 => k_is)
    (case l5 => k_is)
    (case e5 => k_is)
    (case k5 => k_is)
    (case a6 => k_is)
    (case l6 => k_is)
    (case e6 => k_is)
    (case k6 => k_is)
    (case a7 => k_is)
    (case l7 => k_is)
    (case e7 => k_is)
    (case k7 => k_is)
    (case a8 => k_is)
    (case l8 => k_is)
    (case e8 => k_is)
    (case k8 => k_is)
    (case a9 => k_is)
    (case l9 => k_is)
    (case e9 => k_is)
    (case k9 => k_is)
    (case a10 => k_is)
    (case l10 => k_is)
    (case e10 => k_is)
    (case k10 => k_is)
    (case a11 => k_is)
    (case l11 => k_is)
    (case e11 => k_is)
    (case k11 => k_is)
    (case a12 => k_is)
    (case l12 => k_is)
    (case e12 => k_is)
    (case k12 => k_is)
    (case z1 => k_is)
    (case z2 => k_is)
    (case z3 => k_is)
    (case z4 => k_is)
    (case z5 => k_is)
    (case z6 => k_is)
    (case z7 => k_is)
    (case z8 => k_is)
    (case z9 => k_is)
    (case z10 => k_is)
    (case z11 => k_is)
    (case z12 => k_is)
    (case z13 => k_is)

