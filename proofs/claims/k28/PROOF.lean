import PyProof.Rows.All
import Wide.All
import OpenK.AllK
import Wide.FinOn
import HandS.ForMost
import HandS.Zip
import HandS.AnyAll
import PyProof.TupleOfGen
import PyProof.GenCompT
import KE.GoesEnum
import HandS.IsInst
import HandS.Walk
import HandS.EndOwn
import HandS.TupMul
import HandS.Wide
import HandS.TupAny
import HandS.SortKw
import KE.DataMinMax
import KE.KEqSeq
import PyProof.StrBlock2
import HandS.Codes
import KE.SortKeyHeap
import HandS.Rev
import HandS.SetFor
import KE.DataFind
import HandS.Style
import HandS.Star
import HandS.SetBool
import HandS.SetIn
import KE.SortData
import HandS.TupSets
import PyProof.ZipIter
import KE.KEqNest
import KE.DataEq
import PyProof.NeKinds
import PySem.Challenge.RW_clusterhall_k28_whom_one_may_take_from
set_option Elab.async false
set_option linter.all false
set_option maxRecDepth 100000
set_option maxHeartbeats 2000000
namespace GX
open PySem PySem.Spec PyProof.Rows L2 GxR
/-- what the element of a generator expression meets: its own frame, and all that stood when the walked thing was made, but for the table at P -/
structure Ask (X : Cx) (scope : Scope) (P : Addr) (s1 : Shared) (cenv : Env) (s2 : Shared) (m2 : Str → Option Value) : Prop where
  sc : cenv.scope = scope
  gl : cenv.globals = X.env.globals
  bl : cenv.builtins = builtinsNs
  ce : cenv.cells = cloFrom X.env.cells scope.names []
  ns : s2.heap.Ns cenv.locals m2
  kp : ∀ b o, b ≠ P → s1.heap.get? b = some o → s2.heap.get? b = some o
  tb : ∃ ps, s1.heap.get? P = some { cls := .none, data := .fields ps }
/-- the element, over one name -/
def Elt1 (X : Cx) (scope : Scope) (P : Addr) (x : Str) (elt : Expr) (pre : L2.St → V → Prop) (g : L2.St → V → V) : Prop :=
  ∀ (pins : List (Addr × Obj)) (σ : L2.St) (H : Hp) (s1 : Shared) (cenv : Env) (B : Around) (Er : Value → Shared → Prop) (s2 : Shared) (m2 : Str → Option Value) (v : V) (u : Value),
    Inv X pins σ H s1 → Ask X scope P s1 cenv s2 m2 → B.handled = none → m2 x = some u → RelV v u → pre σ v →
    wpAny (model X.prog X.w) B (eval elt cenv) (fun y s3 => RelV (g σ v) y ∧ Keeps s2 s3) Er s2
/-- the element, over two names -/
def Elt2 (X : Cx) (scope : Scope) (P : Addr) (xa xb : Str) (elt : Expr) (pre : L2.St → V → V → Prop) (g : L2.St → V → V → V) : Prop :=
  ∀ (pins : List (Addr × Obj)) (σ : L2.St) (H : Hp) (s1 : Shared) (cenv : Env) (B : Around) (Er : Value → Shared → Prop) (s2 : Shared) (m2 : Str → Option Value) (v w : V) (u z : Value),
    Inv X pins σ H s1 → Ask X scope P s1 cenv s2 m2 → B.handled = none → m2 xa = some u → m2 xb = some z → RelV v u → RelV w z → pre σ v w →
    wpAny (model X.prog X.w) B (eval elt cenv) (fun y s3 => RelV (g σ v w) y ∧ Keeps s2 s3) Er s2
/-- the walked thing stands ready: its items are vs -/
def Begun (X : Cx) (P : Addr) (s1 : Shared) (vs : List V) (it : Value) (s2 : Shared) : Prop :=
  ∃ (Ia : Addr) (fp wr : List Addr) (Pf : Nat → Value → Prop) (Sf : Nat → Heap → Prop) (h2 : Heap) (t2 : Nat), it = .ref Ia ∧ s2 = { s1 with heap := h2, toks := t2 } ∧ (∀ b o, s1.heap.get? b = some o → h2.get? b = some o) ∧ s1.heap.objs.size ≤ h2.objs.size ∧
    (∀ B : Around, B.handled = none → Walks X.prog X.w B Ia fp wr vs.length Pf Sf) ∧ Sf 0 h2 ∧ (∀ b ∈ fp, b < h2.objs.size ∧ b ≠ P) ∧ (∀ b ∈ wr, s1.heap.objs.size ≤ b) ∧ ∀ i u, Pf i u → ∃ v, vs[i]? = some v ∧ RelV v u
/-- the same, its items pairs -/
def Begun2 (X : Cx) (P : Addr) (s1 : Shared) (vs : List (V × V)) (it : Value) (s2 : Shared) : Prop :=
  ∃ (Ia : Addr) (fp wr : List Addr) (Pf : Nat → Array Value → Prop) (Sf : Nat → Heap → Prop) (Mid : Nat → Addr → Heap → Prop) (h2 : Heap) (t2 : Nat), it = .ref Ia ∧ s2 = { s1 with heap := h2, toks := t2 } ∧ (∀ b o, s1.heap.get? b = some o → h2.get? b = some o) ∧ s1.heap.objs.size ≤ h2.objs.size ∧
    (∀ B : Around, B.handled = none → WalksU X.prog X.w B Ia fp wr vs.length Pf Sf Mid) ∧ Sf 0 h2 ∧ (∀ b ∈ fp, b < h2.objs.size ∧ b ≠ P) ∧ (∀ b ∈ wr, s1.heap.objs.size ≤ b) ∧ ∀ i us, Pf i us → ∃ v w u z, us = #[u, z] ∧ vs[i]? = some (v, w) ∧ RelV v u ∧ RelV w z
/-- a generator at g stands ready in s5; it will give the values of ws; H1: what was held before -/
def Ready (X : Cx) (pins : List (Addr × Obj)) (σ : L2.St) (H1 : Hp) (P : Addr) (ws : List V) (g : Addr) (s5 : Shared) : Prop :=
  ∃ (fp wr : List Addr) (G : Array GenState → Array GenState → Prop) (F : Nat → Value → Prop) (Sf : Nat → Shared → Prop),
    WalksS X.prog X.w X.A.in4 g fp wr G ws.length F Sf ∧ Sf 0 s5 ∧ (∀ b ∈ fp, b < s5.heap.objs.size) ∧ g ∈ fp ∧ (∀ i s9, Sf i s9 → s9.TypeIs (.ref g) "generator") ∧ (∀ j y, F j y → ∃ v, ws[j]? = some v ∧ RelV v y) ∧
    ∀ s', Moved wr G s5 s' → ∃ H2, Tabbed P H1 H2 ∧ Inv X pins σ H2 s'
/-- what the scope of a generator expression, with its first name x, is, within a def of the scope sc -/
structure GenV (sc scope : Scope) (x : Str) : Prop where
  kind : scope.kind = .function
  co : scope.isCoroutine = false
  cell : ∀ y ∈ scope.names, y.2 ≠ .cell
  dot : scope.names.lookup (".0" : Str) = some NameKind.local
  loc : scope.names.lookup x = some .local
  free : ∀ y ∈ scope.names, y.2 = .free → sc.names.lookup y.1 = some .cell ∨ sc.names.lookup y.1 = some .free
section
variable {X : Cx} {pins : List (Addr × Obj)} {σ : L2.St} {H : Hp} {s : Shared}
theorem GenV.to {scope : Scope} {x : Str} (S : GenV X.env.scope scope x) (I : Inv X pins σ H s) : GenS X.env scope x :=
  ⟨S.kind, S.co, S.cell, S.dot, S.loc, fun y hy e => by
    rcases S.free y hy e with k | k
    · exact I.ok.has _ (.inl k)
    · exact I.ok.has _ (.inr k)⟩
theorem all_pass (n : Nat) : passing (fun _ => true) n 0 = List.range n := by
  simp [passing]
theorem gen1 {c P : Addr} {elt iter : Expr} {x : Str} {px gpos : Pos} {scope : Scope} {pre : L2.St → V → Prop} {g : L2.St → V → V} {k : Nat} {Qg : Value → Shared → Prop}
    (hr : Room k X.A) (TB : TabB X.base X.mg c P) (hcode : X.env.code = .ref c) (S : GenS X.env scope x) (hel : Elt1 X scope P x elt pre g) (hs : ∀ v, genFold iter X.env v = pure v)
    (h : wpAny (model X.prog X.w) X.A (eval iter X.env) (fun xv sA => ∃ H1 s1, Inv X pins σ H1 s1 ∧ TabG H1 P ∧
      wpAny (model X.prog X.w) X.A (pyIter xv) (fun it s2 => ∃ vs, Begun X P s1 vs it s2 ∧ (∀ v ∈ vs, pre σ v) ∧ ∀ a s5, Ready X pins σ H1 P (vs.map (g σ)) a s5 → Qg (.ref a) s5) X.xe sA) X.xe s) :
    wpAny (model X.prog X.w) X.A (eval (.GeneratorExp elt [⟨.Name x px, iter, [], 0⟩] scope gpos) X.env) Qg X.xe s := by
  refine wpAny_GeneratorExp_walksQ hr.hd S.co (closure_ok S.free) S.cell S.dot S.loc S.kind (by have := hr.dp; omega) ?_ hs
  refine wpAny_mono h (fun xv sA h1 => ?_) (fun _ _ e => e)
  obtain ⟨H1, s1, I1, ⟨ps, hP, ht⟩, hit⟩ := h1
  refine wpAny_mono hit (fun it s2 h2 => ?_) (fun _ _ e => e)
  obtain ⟨vs, ⟨Ia, fp, wr, Pf, Sf, hp2, t2, rfl, rfl, kp, sz, W, st0, hfp, hwr, hPf⟩, hpre, hQ⟩ := h2
  have tabS : s1.heap.get? P = some { cls := .none, data := .fields ps } := I1.hok P _ hP
  have tabL : P < s1.heap.objs.size := Heap.lt_size tabS
  have tab2 : hp2.get? P = some { cls := .none, data := .fields ps } := kp _ _ tabS
  have cd : PySem.W.CodeHd hp2 c P := TB.code.keeps fun b u e => kp b u (I1.bk b u e)
  have lim : hp2.NoLimit := I1.nolimit.keeps kp
  refine ⟨lim, ?_⟩
  have cont : ∀ (code : Value) (h3 : Heap) (tk : Nat) (ps' : Array Value), Heap.ExtBut P hp2 h3 → hp2.objs.size ≤ h3.objs.size → h3.get? P = some { cls := .none, data := .fields ps' } → (∃ more, ps' = ps ++ more) → TriplesOk ps'.toList →
      wpAny (model X.prog X.w) X.A (builtinsFor X.env.globals X.env.builtins) (fun bi s4 =>
        ∃ I fp wr n0 P0 St0 pz F, Value.ref Ia = .ref I ∧ (∀ B : Around, B.handled = none → Walks X.prog X.w B I fp wr n0 P0 St0) ∧ St0 0 s4.heap ∧ (∀ b ∈ fp, b < s4.heap.objs.size) ∧ s4.heap.NoLimit ∧ cStatics ∉ wr ∧
          (∀ hf : Heap, (∀ b o, s4.heap.get? b = some o → hf.get? b = some o) →
            QuietGen X.prog X.w (genEnv scope (cloFrom X.env.cells scope.names []) s4.heap.objs.size code bi X.env) x [] elt (List.range s4.heap.objs.size) wr P0 pz F hf) ∧
          (∀ a h5 tk gs, gs.bare = true → s4.heap.objs.size < a → h5.objs.size = a + 1 → (∀ b o, s4.heap.get? b = some o → h5.get? b = some o) →
            WalksS X.prog X.w X.A.in4 a (a :: s4.heap.objs.size :: List.range s4.heap.objs.size) (s4.heap.objs.size :: wr) (GenOnlyQ s4.gens.size) (passing pz n0 0).length
              (fun j y => ∃ i, (passing pz n0 0)[j]? = some i ∧ F i y) (GenAt X.prog X.w X.A.in4 a s4.gens.size s4.heap.objs.size (List.range s4.heap.objs.size) wr pz n0 F) →
            GenAt X.prog X.w X.A.in4 a s4.gens.size s4.heap.objs.size (List.range s4.heap.objs.size) wr pz n0 F 0 { s4 with gens := s4.gens.push gs, toks := tk, heap := h5 } →
            Qg (.ref a) { s4 with gens := s4.gens.push gs, toks := tk, heap := h5 })) X.xe { s1 with heap := h3, toks := tk } := by
    intro code h3 tk ps' hx hsz hP3 hmore ht3
    obtain ⟨bm, ob, e1, e2, e3, e4, e5, e6, e7, e8⟩ := TB.bm
    have kp3 : ∀ b u, b ≠ P → s1.heap.get? b = some u → h3.get? b = some u := fun b u hb e => hx b u hb (kp b u e)
    have ncs : cStatics < s1.heap.objs.size := let ⟨_, hns, _⟩ := I1.nolimit; hns.lt
    have ncP : cStatics ≠ P := fun e => by
      obtain ⟨_, ⟨o', es, ep, ho, hd, _⟩, _⟩ := I1.nolimit
      rw [e, tabS] at ho
      cases ho
      cases hd
    refine wpAny_builtinsFor (m := X.mg) (by rw [I1.ok.glob]; exact ((I1.mod.glob.keeps I1.bk).keeps kp).extBut hx TB.gP) e1 e2 (kp3 _ _ e4 (I1.bk _ _ e5)) e6 e7 e8 ?_
    refine ⟨Ia, fp, wr, vs.length, Pf, Sf, (fun _ => true), (fun i y => ∃ v, vs[i]? = some v ∧ RelV (g σ v) y), rfl, W, ?_, fun b hb => Nat.lt_of_lt_of_le (hfp b hb).1 hsz, lim.extBut hx ncP, fun z => Nat.lt_irrefl _ (Nat.lt_of_lt_of_le ncs (hwr _ z)), ?_, ?_⟩
    · exact (W X.A hr.hd).frame _ _ _ st0 fun b hb u e => hx b u (hfp b hb).2 e
    · intro hf hkf
      refine ⟨fun B Er i v s2 m2 hB hv hn hm hk => ?_, fun B Er i v s2 m2 hB hv hp hn hm hk => ?_⟩
      · simp only [List.forIn_nil]
        exact wpAny_pure ⟨rfl, keeps_refl _⟩
      · obtain ⟨v', hv', rv⟩ := hPf i v hv
        have ask : Ask X scope P s1 (genEnv scope (cloFrom X.env.cells scope.names []) h3.objs.size code builtinsNs X.env) s2 m2 := by
          refine ⟨rfl, rfl, rfl, rfl, hn, fun b o hb e => ?_, ⟨ps, tabS⟩⟩
          have hl : b < s1.heap.objs.size := Heap.lt_size e
          refine hk b (List.mem_range.mpr (Nat.lt_of_lt_of_le hl (Nat.le_trans sz hsz))) (fun z => ?_) o (hkf b o (kp3 b o hb e))
          exact Nat.lt_irrefl _ (Nat.lt_of_lt_of_le hl (hwr b z))
        exact wpAny_mono (hel pins σ H1 s1 _ B Er s2 m2 v' v I1 ask hB hm rv (hpre v' (List.mem_of_getElem? hv'))) (fun y s3 r => ⟨⟨v', hv', r.1⟩, r.2⟩) fun _ _ e => e
    · intro a h5 tk5 gs hgb hag hsz5 hk5 W5 hat
      simp only [all_pass, List.length_range] at W5
      refine hQ a _ ⟨_, _, _, _, _, by rw [List.length_map]; exact W5, hat, fun b hb => ?_, List.mem_cons_self, fun i s9 st => ?_, fun j y hy => ?_, fun s' hm => ?_⟩
      · show b < h5.objs.size
        rcases List.mem_cons.mp hb with z | z
        · rw [z, hsz5]
          exact Nat.lt_succ_self _
        · rcases List.mem_cons.mp z with z | z
          · rw [z, hsz5]
            exact Nat.lt_succ_of_lt hag
          · rw [hsz5]
            exact Nat.lt_succ_of_lt (Nat.lt_trans (List.mem_range.mp z) hag)
      · exact st.1.typeIs
      · obtain ⟨i, hij, v, hv, ry⟩ := hy
        obtain ⟨hj, ej⟩ := List.getElem?_eq_some_iff.mp hij
        rw [List.getElem_range] at ej
        subst ej
        exact ⟨g σ v, by rw [List.getElem?_map, hv]; rfl, ry⟩
      · obtain ⟨more, em⟩ := hmore
        have nwr : ∀ b u, s1.heap.get? b = some u → b ∉ h3.objs.size :: wr := fun b u e hb => by
          have hl := Heap.lt_size e
          rcases List.mem_cons.mp hb with z | z
          · rw [z] at hl
            exact Nat.lt_irrefl _ (Nat.lt_of_lt_of_le hl (Nat.le_trans sz hsz))
          · exact Nat.lt_irrefl _ (Nat.lt_of_lt_of_le hl (hwr b z))
        have J := inv_tab (more := more) (h' := s'.heap) (g' := s'.gens) (d' := s'.drawn) (t' := s'.toks) I1 hP (fun b u hb e => hm.heap b u (nwr b u e) (hk5 b u (kp3 b u hb e)))
          (by rw [← em]; exact hm.heap P _ (nwr P _ tabS) (hk5 P _ hP3)) (AllBare.movedS (I1.bare.push hgb) hm)
        rw [sh_eta s1 s' hm.os] at J
        exact ⟨upd H1 P (.tbl (ps ++ more)), ⟨⟨ps ++ more, upd_same, by rw [← em]; exact ht3⟩, fun b hb => upd_ne hb⟩, J⟩
  cases hf : codeAmong gpos ps.toList with
  | none =>
    refine wpAny_genexprCodeX hcode (cd.code tab2 ht) (cd.tab tab2) hf fun c' h' tk hx hge hlt hco' _ htab' _ => ?_
    obtain ⟨o1, us, f1, tf, fl, tg, inF, tx, tt, op, _, _, _, _, _, _, _, _, _, htr, _⟩ := hco'
    exact cont _ h' tk _ hx (Nat.le_trans hge (Nat.le_of_lt hlt)) htab'.2 ⟨_, rfl⟩ htr
  | some cv =>
    refine wpAny_genexprCode_hit hcode (cd.code tab2 ht) hf ?_
    exact cont cv hp2 t2 ps (Heap.ExtBut.refl _ _) (Nat.le_refl _) tab2 ⟨#[], by simp⟩ ht
theorem gen2 {c P : Addr} {elt iter : Expr} {xa xb : Str} {pa pb pt gpos : Pos} {kt : Nat} {scope : Scope} {pre : L2.St → V → V → Prop} {g : L2.St → V → V → V} {k : Nat} {Qg : Value → Shared → Prop}
    (hr : Room k X.A) (TB : TabB X.base X.mg c P) (hcode : X.env.code = .ref c) (S : GenS X.env scope xa) (Sb : scope.names.lookup xb = some .local) (hab : xa ≠ xb) (hel : Elt2 X scope P xa xb elt pre g) (hs : ∀ v, genFold iter X.env v = pure v)
    (h : wpAny (model X.prog X.w) X.A (eval iter X.env) (fun xv sA => ∃ H1 s1, Inv X pins σ H1 s1 ∧ TabG H1 P ∧
      wpAny (model X.prog X.w) X.A (pyIter xv) (fun it s2 => ∃ vs, Begun2 X P s1 vs it s2 ∧ (∀ v ∈ vs, pre σ v.1 v.2) ∧ ∀ a s5, Ready X pins σ H1 P (vs.map fun v => g σ v.1 v.2) a s5 → Qg (.ref a) s5) X.xe sA) X.xe s) :
    wpAny (model X.prog X.w) X.A (eval (.GeneratorExp elt [⟨.Tuple [.Name xa pa, .Name xb pb] kt pt, iter, [], 0⟩] scope gpos) X.env) Qg X.xe s := by
  refine wpAny_GeneratorExp_walksQT hr.hd S.co (closure_ok S.free) S.cell S.dot S.loc Sb hab S.kind (by have := hr.dp; omega) ?_ hs
  refine wpAny_mono h (fun xv sA h1 => ?_) (fun _ _ e => e)
  obtain ⟨H1, s1, I1, ⟨ps, hP, ht⟩, hit⟩ := h1
  refine wpAny_mono hit (fun it s2 h2 => ?_) (fun _ _ e => e)
  obtain ⟨vs, ⟨Ia, fp, wr, Pf, Sf, Mid, hp2, t2, rfl, rfl, kp, sz, W, st0, hfp, hwr, hPf⟩, hpre, hQ⟩ := h2
  have tabS : s1.heap.get? P = some { cls := .none, data := .fields ps } := I1.hok P _ hP
  have tabL : P < s1.heap.objs.size := Heap.lt_size tabS
  have tab2 : hp2.get? P = some { cls := .none, data := .fields ps } := kp _ _ tabS
  have cd : PySem.W.CodeHd hp2 c P := TB.code.keeps fun b u e => kp b u (I1.bk b u e)
  have lim : hp2.NoLimit := I1.nolimit.keeps kp
  refine ⟨lim, ?_⟩
  have cont : ∀ (code : Value) (h3 : Heap) (tk : Nat) (ps' : Array Value), Heap.ExtBut P hp2 h3 → hp2.objs.size ≤ h3.objs.size → h3.get? P = some { cls := .none, data := .fields ps' } → (∃ more, ps' = ps ++ more) → TriplesOk ps'.toList →
      wpAny (model X.prog X.w) X.A (builtinsFor X.env.globals X.env.builtins) (fun bi s4 =>
        ∃ I fp wr n0 P0 St0 M0 pz F, Value.ref Ia = .ref I ∧ (∀ B : Around, B.handled = none → WalksU X.prog X.w B I fp wr n0 P0 St0 M0) ∧ (∀ i vals, P0 i vals → ∃ va vb, vals = #[va, vb]) ∧ St0 0 s4.heap ∧ (∀ b ∈ fp, b < s4.heap.objs.size) ∧ s4.heap.NoLimit ∧ cStatics ∉ wr ∧
          (∀ hf : Heap, (∀ b o, s4.heap.get? b = some o → hf.get? b = some o) →
            QuietGenT X.prog X.w (genEnv scope (cloFrom X.env.cells scope.names []) s4.heap.objs.size code bi X.env) xa xb [] elt (List.range s4.heap.objs.size) wr P0 pz F hf) ∧
          (∀ a h5 tk gs, gs.bare = true → s4.heap.objs.size < a → h5.objs.size = a + 1 → (∀ b o, s4.heap.get? b = some o → h5.get? b = some o) →
            WalksS X.prog X.w X.A.in4 a (a :: s4.heap.objs.size :: List.range s4.heap.objs.size) (s4.heap.objs.size :: wr) (GenOnlyQ s4.gens.size) (passing pz n0 0).length
              (fun j y => ∃ i, (passing pz n0 0)[j]? = some i ∧ F i y) (GenAt X.prog X.w X.A.in4 a s4.gens.size s4.heap.objs.size (List.range s4.heap.objs.size) wr pz n0 F) →
            GenAt X.prog X.w X.A.in4 a s4.gens.size s4.heap.objs.size (List.range s4.heap.objs.size) wr pz n0 F 0 { s4 with gens := s4.gens.push gs, toks := tk, heap := h5 } →
            Qg (.ref a) { s4 with gens := s4.gens.push gs, toks := tk, heap := h5 })) X.xe { s1 with heap := h3, toks := tk } := by
    intro code h3 tk ps' hx hsz hP3 hmore ht3
    obtain ⟨bm, ob, e1, e2, e3, e4, e5, e6, e7, e8⟩ := TB.bm
    have kp3 : ∀ b u, b ≠ P → s1.heap.get? b = some u → h3.get? b = some u := fun b u hb e => hx b u hb (kp b u e)
    have ncs : cStatics < s1.heap.objs.size := let ⟨_, hns, _⟩ := I1.nolimit; hns.lt
    have ncP : cStatics ≠ P := fun e => by
      obtain ⟨_, ⟨o', es, ep, ho, hd, _⟩, _⟩ := I1.nolimit
      rw [e, tabS] at ho
      cases ho
      cases hd
    refine wpAny_builtinsFor (m := X.mg) (by rw [I1.ok.glob]; exact ((I1.mod.glob.keeps I1.bk).keeps kp).extBut hx TB.gP) e1 e2 (kp3 _ _ e4 (I1.bk _ _ e5)) e6 e7 e8 ?_
    refine ⟨Ia, fp, wr, vs.length, Pf, Sf, Mid, (fun _ => true), (fun i y => ∃ v, vs[i]? = some v ∧ RelV (g σ v.1 v.2) y), rfl, W, (fun i vals hv => by obtain ⟨_, _, u, z, e, _⟩ := hPf i vals hv; exact ⟨u, z, e⟩), ?_, fun b hb => Nat.lt_of_lt_of_le (hfp b hb).1 hsz, lim.extBut hx ncP, fun z => Nat.lt_irrefl _ (Nat.lt_of_lt_of_le ncs (hwr _ z)), ?_, ?_⟩
    · exact (W X.A hr.hd).frame _ _ _ st0 fun b hb u e => hx b u (hfp b hb).2 e
    · intro hf hkf
      refine ⟨fun B Er i va vb s2 m2 hB hv hn hm hm' hk => ?_, fun B Er i va vb s2 m2 hB hv hp hn hm hm' hk => ?_⟩
      · simp only [List.forIn_nil]
        exact wpAny_pure ⟨rfl, keeps_refl _⟩
      · obtain ⟨v', w', u', z', eq, hv', rv, rw'⟩ := hPf i _ hv
        obtain ⟨rfl, rfl⟩ : va = u' ∧ vb = z' := by simpa using congrArg Array.toList eq
        have ask : Ask X scope P s1 (genEnv scope (cloFrom X.env.cells scope.names []) h3.objs.size code builtinsNs X.env) s2 m2 := by
          refine ⟨rfl, rfl, rfl, rfl, hn, fun b o hb e => ?_, ⟨ps, tabS⟩⟩
          have hl : b < s1.heap.objs.size := Heap.lt_size e
          refine hk b (List.mem_range.mpr (Nat.lt_of_lt_of_le hl (Nat.le_trans sz hsz))) (fun z => ?_) o (hkf b o (kp3 b o hb e))
          exact Nat.lt_irrefl _ (Nat.lt_of_lt_of_le hl (hwr b z))
        exact wpAny_mono (hel pins σ H1 s1 _ B Er s2 m2 v' w' va vb I1 ask hB hm hm' rv rw' (hpre (v', w') (List.mem_of_getElem? hv'))) (fun y s3 r => ⟨⟨(v', w'), hv', r.1⟩, r.2⟩) fun _ _ e => e
    · intro a h5 tk5 gs hgb hag hsz5 hk5 W5 hat
      simp only [all_pass, List.length_range] at W5
      refine hQ a _ ⟨_, _, _, _, _, by rw [List.length_map]; exact W5, hat, fun b hb => ?_, List.mem_cons_self, fun i s9 st => ?_, fun j y hy => ?_, fun s' hm => ?_⟩
      · show b < h5.objs.size
        rcases List.mem_cons.mp hb with z | z
        · rw [z, hsz5]
          exact Nat.lt_succ_self _
        · rcases List.mem_cons.mp z with z | z
          · rw [z, hsz5]
            exact Nat.lt_succ_of_lt hag
          · rw [hsz5]
            exact Nat.lt_succ_of_lt (Nat.lt_trans (List.mem_range.mp z) hag)
      · exact st.1.typeIs
      · obtain ⟨i, hij, v, hv, ry⟩ := hy
        obtain ⟨hj, ej⟩ := List.getElem?_eq_some_iff.mp hij
        rw [List.getElem_range] at ej
        subst ej
        exact ⟨g σ v.1 v.2, by rw [List.getElem?_map, hv]; rfl, ry⟩
      · obtain ⟨more, em⟩ := hmore
        have nwr : ∀ b u, s1.heap.get? b = some u → b ∉ h3.objs.size :: wr := fun b u e hb => by
          have hl := Heap.lt_size e
          rcases List.mem_cons.mp hb with z | z
          · rw [z] at hl
            exact Nat.lt_irrefl _ (Nat.lt_of_lt_of_le hl (Nat.le_trans sz hsz))
          · exact Nat.lt_irrefl _ (Nat.lt_of_lt_of_le hl (hwr b z))
        have J := inv_tab (more := more) (h' := s'.heap) (g' := s'.gens) (d' := s'.drawn) (t' := s'.toks) I1 hP (fun b u hb e => hm.heap b u (nwr b u e) (hk5 b u (kp3 b u hb e)))
          (by rw [← em]; exact hm.heap P _ (nwr P _ tabS) (hk5 P _ hP3)) (AllBare.movedS (I1.bare.push hgb) hm)
        rw [sh_eta s1 s' hm.os] at J
        exact ⟨upd H1 P (.tbl (ps ++ more)), ⟨⟨ps ++ more, upd_same, by rw [← em]; exact ht3⟩, fun b hb => upd_ne hb⟩, J⟩
  cases hf : codeAmong gpos ps.toList with
  | none =>
    refine wpAny_genexprCodeX hcode (cd.code tab2 ht) (cd.tab tab2) hf fun c' h' tk hx hge hlt hco' _ htab' _ => ?_
    obtain ⟨o1, us, f1, tf, fl, tg, inF, tx, tt, op, _, _, _, _, _, _, _, _, _, htr, _⟩ := hco'
    exact cont _ h' tk _ hx (Nat.le_trans hge (Nat.le_of_lt hlt)) htab'.2 ⟨_, rfl⟩ htr
  | some cv =>
    refine wpAny_genexprCode_hit hcode (cd.code tab2 ht) hf ?_
    exact cont cv hp2 t2 ps (Heap.ExtBut.refl _ _) (Nat.le_refl _) tab2 ⟨#[], by simp⟩ ht
/-- a generator expression: it will give the list that the reading hands on -/
structure PGn (X : Cx) (P : Addr) (ge : Expr) (t : L2.St → Hp → (List V → Hp → Prop) → Prop) : Prop where
  run : ∀ (pins : List (Addr × Obj)) (s : Shared) (σ : L2.St) (H : Hp) (R : List V → Hp → Prop) (Qg : Value → Shared → Prop), Inv X pins σ H s → t σ H R →
    (∀ ws H1 a s5, R ws H1 → Ready X pins σ H1 P ws a s5 → Qg (.ref a) s5) → wpAny (model X.prog X.w) X.A (eval ge X.env) Qg X.xe s
/-- over the signs of a text -/
theorem pgn_str {c P : Addr} {elt iter : Expr} {x : Str} {px gpos : Pos} {scope : Scope} {pre : L2.St → V → Prop} {g : L2.St → V → V} {k : Nat} {te : TE}
    (hr : Room k X.A) (TB : TabB X.base X.mg c P) (hcode : X.env.code = .ref c) (S : GenV X.env.scope scope x) (hi : PE X iter te) (hel : Elt1 X scope P x elt pre g) (hs : ∀ v, genFold iter X.env v = pure v) :
    PGn X P (.GeneratorExp elt [⟨.Name x px, iter, [], 0⟩] scope gpos) (fun σ H R => te σ H fun v H1 => ∃ a : Str, v = .str a ∧ TabG H1 P ∧ (∀ c ∈ a.cps.toList, pre σ (.str ⟨#[c]⟩)) ∧ R (a.cps.toList.map fun c => g σ (.str ⟨#[c]⟩)) H1) := by
  refine ⟨fun pins s σ H R Qg I h hQ => gen1 (pins := pins) (σ := σ) hr TB hcode (S.to I) hel hs ?_⟩
  refine thn (hi.run pins s σ H _ I h) fun xv s1 ⟨v, H1, I1, r1, a, ea, hT, hp, q1⟩ => ?_
  subst ea
  obtain ⟨t, rfl⟩ := r1
  refine ⟨H1, s1, I1, hT, wpAny_pyIter_str fun o Sf W hst => ⟨a.cps.toList.map fun c => .str ⟨#[c]⟩, ?_, ?_, fun b s5 hR => ?_⟩⟩
  · obtain ⟨ps, hP, _⟩ := hT
    have tabL : P < s1.heap.objs.size := Heap.lt_size (I1.hok P _ hP)
    refine ⟨s1.heap.objs.size, [s1.heap.objs.size], [s1.heap.objs.size], SignAt a, Sf, s1.heap.push o, s1.toks, rfl, rfl, fun b u e => Heap.get?_push_of_some _ e, ?_, ?_, hst, fun b hb => ?_, fun b hb => ?_, fun i u hu => ?_⟩
    · rw [Heap.size_push]
      exact Nat.le_succ _
    · rw [List.length_map, Array.length_toList]
      exact W
    · rw [List.mem_singleton.mp hb, Heap.size_push]
      exact ⟨Nat.lt_succ_self _, fun z => Nat.ne_of_lt tabL z.symm⟩
    · rw [List.mem_singleton.mp hb]
      exact Nat.le_refl _
    · obtain ⟨cc, tt, hc, rfl⟩ := hu
      refine ⟨.str ⟨#[cc]⟩, ?_, tt, rfl⟩
      rw [List.getElem?_map, Array.getElem?_toList, hc]
      rfl
  · intro v hv
    obtain ⟨cc, hc, rfl⟩ := List.mem_map.mp hv
    exact hp cc hc
  · rw [List.map_map] at hR
    exact hQ _ H1 b s5 q1 hR
/-- over the items of a tuple -/
theorem pgn_tup {c P : Addr} {elt iter : Expr} {x : Str} {px gpos : Pos} {scope : Scope} {pre : L2.St → V → Prop} {g : L2.St → V → V} {k : Nat} {te : TE}
    (hr : Room k X.A) (TB : TabB X.base X.mg c P) (hcode : X.env.code = .ref c) (S : GenV X.env.scope scope x) (hi : PE X iter te) (hel : Elt1 X scope P x elt pre g) (hs : ∀ v, genFold iter X.env v = pure v) :
    PGn X P (.GeneratorExp elt [⟨.Name x px, iter, [], 0⟩] scope gpos) (fun σ H R => te σ H fun v H1 => ∃ (a : Addr) (xs : List V), v = .ref a ∧ SqT X.K H1 a xs ∧ TabG H1 P ∧ (∀ v ∈ xs, pre σ v) ∧ R (xs.map (g σ)) H1) := by
  refine ⟨fun pins s σ H R Qg I h hQ => gen1 (pins := pins) (σ := σ) hr TB hcode (S.to I) hel hs ?_⟩
  refine thn (hi.run pins s σ H _ I h) fun xv s1 ⟨v, H1, I1, r1, a, xs, ea, hX, hT, hp, q1⟩ => ?_
  subst ea
  obtain rfl : xv = Value.ref a := r1
  obtain ⟨its, rv, pt, _⟩ := I1.tuple hX
  obtain ⟨ot, hot, hoc, hod⟩ := _root_.id pt
  have aL : a < s1.heap.objs.size := Heap.lt_size hot
  refine ⟨H1, s1, I1, hT, wpAny_pyIter_tuple pt ⟨xs, ?_, hp, fun b s5 hR => hQ _ H1 b s5 q1 hR⟩⟩
  obtain ⟨ps, hP, _⟩ := hT
  have tabS := I1.hok P _ hP
  have tabL : P < s1.heap.objs.size := Heap.lt_size tabS
  have hn : xs.length = its.toArray.size := by rw [rv.length, List.size_toArray]
  have W := fun (B : Around) (hB : B.handled = none) => Walks.tuple (prog := X.prog) (w := X.w) (A := B) hB s1.heap.objs.size a (Nat.ne_of_lt aL) its.toArray
  rw [← hn] at W
  refine ⟨s1.heap.objs.size, [s1.heap.objs.size, a], [s1.heap.objs.size], _, _, _, s1.toks, rfl, rfl, fun b u e => Heap.get?_push_of_some _ e, ?_, W, ⟨⟨_, Heap.get?_push_size _ rfl, rfl, rfl⟩, ⟨ot, Heap.get?_push_of_some _ hot, hoc, hod⟩⟩, fun b hb => ?_, fun b hb => ?_, fun i u hu => ?_⟩
  · rw [Heap.size_push]
    exact Nat.le_succ _
  · rw [Heap.size_push]
    rcases List.mem_cons.mp hb with z | z
    · rw [z]
      exact ⟨Nat.lt_succ_self _, fun z => Nat.ne_of_lt tabL z.symm⟩
    · rw [List.mem_singleton.mp z]
      refine ⟨Nat.lt_succ_of_lt aL, fun z2 => ?_⟩
      have e2 : s1.heap.get? P = some ot := by rw [← z2]; exact hot
      have e3 := e2.symm.trans tabS
      cases e3
      cases hoc
  · rw [List.mem_singleton.mp hb]
    exact Nat.le_refl _
  · have hu2 : its[i]? = some u := by simpa using hu
    have hi2 : i < its.length := (List.getElem?_eq_some_iff.mp hu2).1
    have hi3 : i < xs.length := by rw [rv.length]; exact hi2
    obtain ⟨u', hu', ru⟩ := rv.get (List.getElem?_eq_getElem hi3)
    rw [hu2] at hu'
    cases hu'
    exact ⟨_, List.getElem?_eq_getElem hi3, ru⟩
/-- over zip of two tuples -/
theorem pgn_zip {c P : Addr} {elt e1 e2 : Expr} {xa xb : Str} {pa pb pt gpos pz pn : Pos} {kt : Nat} {scope : Scope} {pre : L2.St → V → V → Prop} {g : L2.St → V → V → V} {k : Nat} {ta : TA}
    (hr : Room k X.A) (TB : TabB X.base X.mg c P) (hcode : X.env.code = .ref c) (S : GenV X.env.scope scope xa) (Sb : scope.names.lookup xb = some .local) (hab : xa ≠ xb) (hg : Gl X "zip") (hm : X.mg "zip" = none) (ha : PA X [e1, e2] ta) (hel : Elt2 X scope P xa xb elt pre g)
    (hs : ∀ v, genFold (.Call (.Name "zip" pn) [e1, e2] [] pz) X.env v = pure v)
    (he : starEach [e1, e2] X.env = (false, eval e1 X.env) :: starEach [e2] X.env := by rfl) (hpl : (backTo pz (starEach [e2] X.env)).any (·.1) = false := by rfl) :
    PGn X P (.GeneratorExp elt [⟨.Tuple [.Name xa pa, .Name xb pb] kt pt, .Call (.Name "zip" pn) [e1, e2] [] pz, [], 0⟩] scope gpos)
      (fun σ H R => ta σ H fun vs H1 => ∃ (a b : Addr) (xs ys : List V), vs = [.ref a, .ref b] ∧ SqT X.K H1 a xs ∧ SqT X.K H1 b ys ∧ TabG H1 P ∧ (∀ v ∈ xs.zip ys, pre σ v.1 v.2) ∧ R ((xs.zip ys).map fun v => g σ v.1 v.2) H1) := by
  refine ⟨fun pins s σ H R Qg I h hQ => gen2 (pins := pins) (σ := σ) hr TB hcode (S.to I) Sb hab hel hs ?_⟩
  refine Call_ (ld_blt I hg hm PyProof.Rows.boot_zip (PyProof.Rows.callWith_type1 (thn (ha.run pz pins s σ H _ I h) fun us s1 ⟨vs, H1, I1, r1, q1⟩ => ?_) he hpl))
  obtain ⟨a, b, xs, ys, ex, hX, hY, hT, hp, q1⟩ := q1
  subst ex
  obtain ⟨u1, u2, rfl, ra, rb⟩ := vals2 r1
  obtain rfl : u1 = Value.ref a := ra
  obtain rfl : u2 = Value.ref b := rb
  obtain ⟨its, rv, p1, _⟩ := I1.tuple hX
  obtain ⟨jts, rw', p2, _⟩ := I1.tuple hY
  obtain ⟨o1, ho1, oc1, od1⟩ := _root_.id p1
  obtain ⟨o2, ho2, oc2, od2⟩ := _root_.id p2
  have aL : a < s1.heap.objs.size := Heap.lt_size ho1
  have bL : b < s1.heap.objs.size := Heap.lt_size ho2
  refine RZ.call_zipT (show s1.heap.IsTuple a its.toArray from p1) (show s1.heap.IsTuple b jts.toArray from p2) fun h' hz hTI hTO h1 h2 hsz hk => ?_
  refine ⟨H1, s1, I1, hT, wpAny_pyIter_zip hz ⟨xs.zip ys, ?_, hp, fun w s5 hR => hQ _ H1 w s5 q1 hR⟩⟩
  obtain ⟨ps, hP, _⟩ := hT
  have tabS := I1.hok P _ hP
  have tabL : P < s1.heap.objs.size := Heap.lt_size tabS
  have ne1 : a ≠ P := fun z2 => by
    have e2 : s1.heap.get? P = some o1 := by rw [← z2]; exact ho1
    have e3 := e2.symm.trans tabS
    cases e3
    cases oc1
  have ne2 : b ≠ P := fun z2 => by
    have e2 : s1.heap.get? P = some o2 := by rw [← z2]; exact ho2
    have e3 := e2.symm.trans tabS
    cases e3
    cases oc2
  have W := fun (B : Around) (hB : B.handled = none) => (WalksT.zipD2 (prog := X.prog) (w := X.w) (A := B)
    (zip_sep2 (N := s1.heap.objs.size) (fp1 := [a]) (fp2 := [b]) (fun c hc => by rw [List.mem_singleton.mp hc]; exact aL) (fun c hc => by rw [List.mem_singleton.mp hc]; exact bL))
    (Draws.tuple (A := B.in1) hB s1.heap.objs.size a (Nat.ne_of_lt aL) its.toArray) (Draws.tuple (A := B.in1) hB (s1.heap.objs.size + 1) b (Nat.ne_of_lt (Nat.lt_succ_of_lt bL)) jts.toArray)).toU
  have hn : (xs.zip ys).length = min its.toArray.size jts.toArray.size := by rw [List.length_zip, rv.length, rw'.length, List.size_toArray, List.size_toArray]
  rw [← hn] at W
  refine ⟨_, _, _, _, _, _, h', s1.toks, rfl, rfl, hk, by rw [hsz]; exact Nat.le_add_right _ _, W, ⟨hz, hTI, ⟨_, _, hTO⟩, ⟨h1, ⟨o1, hk _ _ ho1, oc1, od1⟩⟩, ⟨h2, ⟨o2, hk _ _ ho2, oc2, od2⟩⟩⟩, fun d hd => ?_, fun d hd => ?_, fun i us hu => ?_⟩
  · rw [hsz]
    have hd2 : d = s1.heap.objs.size + 4 ∨ d = s1.heap.objs.size + 2 ∨ d = s1.heap.objs.size + 3 ∨ d = s1.heap.objs.size ∨ d = a ∨ d = s1.heap.objs.size + 1 ∨ d = b := by simpa using hd
    rcases hd2 with z | z | z | z | z | z | z
    · rw [z]; exact ⟨Nat.add_lt_add_left (by decide) _, fun q => Nat.lt_irrefl _ (Nat.lt_of_le_of_lt (Nat.le_add_right _ 4) (q ▸ tabL))⟩
    · rw [z]; exact ⟨Nat.add_lt_add_left (by decide) _, fun q => Nat.lt_irrefl _ (Nat.lt_of_le_of_lt (Nat.le_add_right _ 2) (q ▸ tabL))⟩
    · rw [z]; exact ⟨Nat.add_lt_add_left (by decide) _, fun q => Nat.lt_irrefl _ (Nat.lt_of_le_of_lt (Nat.le_add_right _ 3) (q ▸ tabL))⟩
    · rw [z]; exact ⟨Nat.lt_add_of_pos_right (by decide), fun q => Nat.lt_irrefl _ (q ▸ tabL)⟩
    · rw [z]; exact ⟨Nat.lt_of_lt_of_le aL (Nat.le_add_right _ 5), ne1⟩
    · rw [z]; exact ⟨Nat.add_lt_add_left (by decide) _, fun q => Nat.lt_irrefl _ (Nat.lt_of_le_of_lt (Nat.le_add_right _ 1) (q ▸ tabL))⟩
    · rw [z]; exact ⟨Nat.lt_of_lt_of_le bL (Nat.le_add_right _ 5), ne2⟩
  · have hd2 : d = s1.heap.objs.size + 4 ∨ d = s1.heap.objs.size + 3 ∨ d = s1.heap.objs.size ∨ d = s1.heap.objs.size + 1 := by simpa using hd
    rcases hd2 with z | z | z | z
    · rw [z]; exact Nat.le_add_right _ _
    · rw [z]; exact Nat.le_add_right _ _
    · rw [z]; exact Nat.le_refl _
    · rw [z]; exact Nat.le_add_right _ _
  · obtain ⟨x1, x2, hx1, hx2, rfl⟩ := hu
    have hu2 : its[i]? = some x1 := by simpa using hx1
    have hw2 : jts[i]? = some x2 := by simpa using hx2
    have hi3 : i < xs.length := by rw [rv.length]; exact (List.getElem?_eq_some_iff.mp hu2).1
    have hj3 : i < ys.length := by rw [rw'.length]; exact (List.getElem?_eq_some_iff.mp hw2).1
    obtain ⟨u', hu', ru⟩ := rv.get (List.getElem?_eq_getElem hi3)
    rw [hu2] at hu'
    cases hu'
    obtain ⟨w', hw', rw2⟩ := rw'.get (List.getElem?_eq_getElem hj3)
    rw [hw2] at hw'
    cases hw'
    exact ⟨xs[i], ys[i], _, _, rfl, by rw [List.getElem?_zip_eq_some]; exact ⟨List.getElem?_eq_getElem hi3, List.getElem?_eq_getElem hj3⟩, ru, rw2⟩
/-- all(..) of a generator expression of truth values -/
theorem pe_allG {P : Addr} {ge : Expr} {t : L2.St → Hp → (List V → Hp → Prop) → Prop} {p pos : Pos} (hg : Gl X "all") (hm : X.mg "all" = none) (hb : bootBuiltins "all" = some (.builtin "all")) (G : PGn X P ge t)
    (he : starEach [ge] X.env = (false, eval ge X.env) :: starEach [] X.env := by rfl) :
    PE X (.Call (.Name "all" p) [ge] [] pos) (fun σ H Q => t σ H fun ws H1 => ∃ bs : List Bool, ws = bs.map V.bl ∧ ∀ H2, Tabbed P H1 H2 → Q (.bl (bs.all _root_.id)) H2) := by
  refine ⟨fun pins s σ H Q I h => ?_⟩
  refine wpAny_Call_Name_kw (ld_blt I hg hm hb ?_)
  refine PyProof.Rows.callWith_builtin1 ?_ he (by rfl)
  rw [he]
  refine Calls.spliced_cons (G.run pins s σ H _ _ I h fun ws H1 a s5 hR hG => ?_)
  obtain ⟨fp, wr, Gr, F, Sf, W, hst, hfp, hgm, hty, hF, hI⟩ := hG
  obtain ⟨bs, rfl, q⟩ := hR
  refine Calls.spliced_nil ?_
  refine call_all_walkS (W.in4_1.self 0 _ _ _ hst ⟨a, fp, wr, Gr, _, F, Sf, fun j => bs.getD j false, rfl, W.in4_1, hst, ?_, fun s' hmv => ?_⟩)
  · intro j y sj Qj Ej hy hQj
    obtain ⟨v, hv, rv⟩ := hF j y hy
    rw [List.getElem?_map] at hv
    cases hb : bs[j]? with
    | none => rw [hb] at hv; cases hv
    | some b =>
      rw [hb] at hv
      cases hv
      obtain rfl : y = Value.bool b := rv
      have e : bs.getD j false = b := by rw [List.getD_eq_getElem?_getD, hb]; rfl
      have hQ2 : Qj (bs.getD j false) sj := hQj
      rw [e] at hQ2
      exact wpAny_truthy_bool hQ2
  · obtain ⟨H2, hT, J⟩ := hI s' hmv
    refine ⟨.bl _, H2, J, rfl, ?_⟩
    have e : (List.range (bs.map V.bl).length).all (fun j => bs.getD j false) = bs.all _root_.id := by
      rw [List.length_map, Bool.eq_iff_iff, List.all_eq_true, List.all_eq_true]
      constructor
      · intro hh b hb
        obtain ⟨j, hj, ej⟩ := List.getElem_of_mem hb
        have q2 := hh j (List.mem_range.mpr hj)
        rw [List.getD_eq_getElem?_getD, List.getElem?_eq_getElem hj] at q2
        rw [← ej]
        exact q2
      · intro hh j hj
        have hj' := List.mem_range.mp hj
        rw [List.getD_eq_getElem?_getD, List.getElem?_eq_getElem hj']
        exact hh _ (List.getElem_mem hj')
    rw [e]
    exact q H2 hT
/-- tuple(..) of a generator expression -/
theorem pe_tupG {P : Addr} {ge : Expr} {t : L2.St → Hp → (List V → Hp → Prop) → Prop} {p pos : Pos} (hg : Gl X "tuple") (hm : X.mg "tuple" = none) (hb : bootBuiltins "tuple" = some (.type "tuple")) (G : PGn X P ge t)
    (he : starEach [ge] X.env = (false, eval ge X.env) :: starEach [] X.env := by rfl) :
    PE X (.Call (.Name "tuple" p) [ge] [] pos) (fun σ H Q => t σ H fun ws H1 => ws.length ≤ sizeLine ∧ ∀ H2 d, Tabbed P H1 H2 → H2 d = none → Q (.ref d) (upd H2 d (.tup ws))) := by
  refine ⟨fun pins s σ H Q I h => ?_⟩
  refine wpAny_Call_Name_kw (ld_blt I hg hm hb ?_)
  refine PyProof.Rows.callWith_type1 ?_ he (by rfl)
  rw [he]
  refine Calls.spliced_cons (G.run pins s σ H _ _ I h fun ws H1 a s5 hR hG => ?_)
  obtain ⟨fp, wr, Gr, F, Sf, W, hst, hfp, hgm, hty, hF, hI⟩ := hG
  obtain ⟨hl, q⟩ := hR
  refine Calls.spliced_nil ?_
  refine call_tuple_gen W.in4_3 hty hst hfp hgm (fun s' acc hmv hacc => ?_) hl
  obtain ⟨H2, hT, J⟩ := hI s' hmv
  have rel : Vals ws acc.toList := by
    have key : ∀ (ws : List V) (us : List Value), ws.length = us.length → (∀ (j : Nat) (v : V) (u : Value), ws[j]? = some v → us[j]? = some u → RelV v u) → Vals ws us := by
      intro ws
      induction ws with
      | nil =>
        intro us hl _
        cases us with
        | nil => exact .nil
        | cons u r => cases hl
      | cons v r ih =>
        intro us hl hk
        cases us with
        | nil => cases hl
        | cons u us =>
          refine .cons (hk 0 v u rfl rfl) (ih us (by simpa using hl) fun j v' u' h1 h2 => hk (j + 1) v' u' h1 h2)
    refine key ws acc.toList (hacc.1.symm.trans Array.length_toList.symm) fun j v u h1 h2 => ?_
    have h3 : acc[j]? = some u := by rw [← Array.getElem?_toList]; exact h2
    obtain ⟨v', hv', rv⟩ := hF j u (hacc.2 j u h3)
    rw [h1] at hv'
    cases hv'
    exact rv
  have I2 : Inv X pins σ (upd H2 s'.heap.objs.size (.tup ws)) { s' with heap := s'.heap.push { cls := .type "tuple", data := .seq acc } } :=
    J.laid (t' := s'.toks) (fun b o e => Heap.get?_push_of_some _ e) (Nat.le_refl _) (show ObjOk X.prog X.w _ _ _ (.tup ws) from ⟨hl, acc.toList, rel, by rw [Array.toArray_toList]; exact IsTup.new _ _⟩)
  exact ⟨.ref s'.heap.objs.size, _, I2, rfl, q H2 _ hT (J.hok.fresh (Nat.le_refl _))⟩
end
end GX

set_option maxHeartbeats 2000000
namespace GX
open PySem PySem.Spec PyProof.Rows L2 GxR
section
variable {X : Cx} {scope : Scope} {P : Addr} {pins : List (Addr × Obj)} {σ : L2.St} {H : Hp} {s1 s2 : Shared} {cenv : Env} {m2 : Str → Option Value} {B : Around} {Er : Value → Shared → Prop} {Q : Value → Shared → Prop}
/-- a name of the generator's own -/
theorem own_name {x : Str} {u : Value} {p : Pos} (a : Ask X scope P s1 cenv s2 m2) (hk : scope.kind = .function) (hl : scope.names.lookup x = some .local) (hm : m2 x = some u) (h : Q u s2) (hd : (x == ("__debug__" : Str)) = false := by decide) :
    wpAny (model X.prog X.w) B (eval (.Name x p) cenv) Q Er s2 :=
  wpAny_Name (wpAny_loadName_local (by rw [a.sc]; exact hk) (show cenv.scope.names.lookup x = some .local by rw [a.sc]; exact hl) a.ns hm h) hd
/-- what is still there -/
theorem Ask.step (a : Ask X scope P s1 cenv s2 m2) {s3 : Shared} (k : Keeps s2 s3) : Ask X scope P s1 cenv s3 m2 := by
  obtain ⟨h', tk, rfl, hk⟩ := k
  exact ⟨a.sc, a.gl, a.bl, a.ce, a.ns.keeps hk, fun b o hb e => hk b o (a.kp b o hb e), a.tb⟩
theorem Ask.mod (a : Ask X scope P s1 cenv s2 m2) (I : Inv X pins σ H s1) (gP : mainGlobals ≠ P) : s2.heap.Ns cenv.globals X.mg := by
  rw [a.gl, I.ok.glob]
  exact (I.mod.glob.keeps I.bk).at' fun o e => a.kp _ o gP e
/-- a module's name -/
theorem glob_name {x : Str} {u : Value} {p : Pos} (a : Ask X scope P s1 cenv s2 m2) (I : Inv X pins σ H s1) (gP : mainGlobals ≠ P) (hk : scope.kind = .function) (hl : scope.names.lookup x = some .globalImplicit) (hm : X.mg x = some u) (h : Q u s2) (hd : (x == ("__debug__" : Str)) = false := by decide) :
    wpAny (model X.prog X.w) B (eval (.Name x p) cenv) Q Er s2 :=
  Calls.Name_function_global (by rw [a.sc]; exact hk) (show cenv.scope.names.lookup x = some .globalImplicit by rw [a.sc]; exact hl) (Calls.loadGlobal_global (a.mod I gP) hm h) hd
/-- a built-in name -/
theorem blt_name {x : Str} {u : Value} {p : Pos} (a : Ask X scope P s1 cenv s2 m2) (I : Inv X pins σ H s1) (gP : mainGlobals ≠ P) (hk : scope.kind = .function) (hl : scope.names.lookup x = some .globalImplicit) (hm : X.mg x = none) (hv : bootBuiltins x = some u) (h : Q u s2)
    (hn : x ≠ "__name__" := by decide) (hd : (x == ("__debug__" : Str)) = false := by decide) : wpAny (model X.prog X.w) B (eval (.Name x p) cenv) Q Er s2 := by
  obtain ⟨mb, h1, h2⟩ := I.mod.blt
  have h3 := h1.keeps I.bk
  have nP : builtinsNs ≠ P := fun z => by
    obtain ⟨ps, hps⟩ := a.tb
    obtain ⟨o, es, ep, ho, hdd, _⟩ := h3
    rw [z, hps] at ho
    cases ho
    cases hdd
  have h4 : s2.heap.Ns cenv.builtins mb := by
    rw [a.bl]
    exact h3.at' fun o e => a.kp _ o nP e
  exact Calls.Name_function_global (by rw [a.sc]; exact hk) (show cenv.scope.names.lookup x = some .globalImplicit by rw [a.sc]; exact hl) (Calls.loadGlobal_builtin (a.mod I gP) hm h4 ((h2 x hn).trans hv) h) hd
/-- a captured name of the def: it stands in the def's slot i -/
theorem free_name {y : Str} {i : Nat} {v : V} {p : Pos} (a : Ask X scope P s1 cenv s2 m2) (I : Inv X pins σ H s1) (hk : scope.kind = .function) (hl : scope.names.lookup y = some .free) (hN : X.N[i]? = some y) (hc : X.env.scope.names.lookup y = some .cell) (hσ : σ[i]? = some (some v))
    (h : ∀ u, RelV v u → Q u s2) (hd : (y == ("__debug__" : Str)) = false := by decide) (hcd : (y == ("__classdict__" : Str)) = false := by decide) : wpAny (model X.prog X.w) B (eval (.Name y p) cenv) Q Er s2 := by
  obtain ⟨m, hn, hlk⟩ := I.loc
  obtain ⟨u, ru, lk⟩ := hlk i y v hN hσ (.inr (.inl hc))
  rcases lk with ⟨k, _⟩ | ⟨_, c, hcl, hcell⟩
  · have k2 : X.env.scope.names.lookup y = some .local := k
    rw [hc] at k2
    cases k2
  · obtain ⟨o, ho, hdt⟩ := hcell
    have ncP : c ≠ P := fun z => by
      obtain ⟨ps, hps⟩ := a.tb
      rw [z, hps] at ho
      cases ho
      cases hdt
    have mem : (y, (X.env.cells.lookup y).getD 0) ∈ cenv.cells := by
      rw [a.ce]
      exact cloFrom_has (PySem.mem_of_lookup hl)
    have lkc : cenv.cells.lookup y = some c := by
      cases e : cenv.cells.lookup y with
      | none =>
        have := List.lookup_eq_none_iff.mp e _ mem
        simp at this
      | some c' =>
        have h1 := PySem.mem_of_lookup e
        rw [a.ce] at h1
        rcases cloFrom_mem h1 with z | ⟨_, z⟩
        · cases z
        · rw [z, hcl]
          rfl
    refine wpAny_Name (wpAny_loadName_free (by rw [a.sc]; exact hk) (show cenv.scope.names.lookup y = some .free by rw [a.sc]; exact hl) lkc ⟨o, a.kp _ o ncP ho, hdt⟩ (h u ru) hcd) hd
end
/-- x in G, G a text of the module -/
def inG (z : Str) : V → V
  | .str a => .bl (a.cps.toList.all fun c => decide (c ∈ z.cps.toList))
  | v => v
theorem elt_inG {X : Cx} {scope : Scope} {P : Addr} {x gn : Str} {z : Str} {t : Tok} {p1 p2 p3 : Pos} (gP : mainGlobals ≠ P) (hk : scope.kind = .function) (hl : scope.names.lookup x = some .local) (hg : scope.names.lookup gn = some .globalImplicit) (hm : X.mg gn = some (.str z t))
    (hd : (x == ("__debug__" : Str)) = false := by decide) (hd2 : (gn == ("__debug__" : Str)) = false := by decide) :
    Elt1 X scope P x (.Compare (.Name x p1) [.In] [.Name gn p2] p3) (fun _ v => ∃ c, v = .str ⟨#[c]⟩) (fun _ v => inG z v) := by
  intro pins σ H s1 cenv B Er s2 m2 v u I a hB hx rv hp
  obtain ⟨c, rfl⟩ := hp
  obtain ⟨t', rfl⟩ := rv
  refine wpAny_Compare1 (own_name a hk hl hx (glob_name a I gP hk hg hm ?_ hd2) hd)
  refine PyProof.Rows.in_str ⟨?_, keeps_refl _⟩
  show Value.bool _ = Value.bool _
  rw [PySem.StrLaws.found_one z c]
  simp
def add2 : V → V → V
  | .int i, .int j => .int (i + j)
  | v, _ => v
def sub2 : V → V → V
  | .int i, .int j => .int (i - j)
  | v, _ => v
def le2 : V → V → V
  | .int i, .int j => .bl (decide (i ≤ j))
  | v, _ => v
def min2 : V → V → V
  | .int i, .int j => .int (if j < i then j else i)
  | v, _ => v
/-- x * y, y a captured name in the slot i -/
def mulAt (i : Nat) (σ : L2.St) : V → V
  | .int a => (match σ[i]? with
    | some (some (.int b)) => .int (a * b)
    | _ => .int a)
  | v => v
theorem elt_mul {X : Cx} {scope : Scope} {P : Addr} {x y : Str} {i : Nat} {p1 p2 p3 : Pos} (hk : scope.kind = .function) (hl : scope.names.lookup x = some .local) (hf : scope.names.lookup y = some .free) (hN : X.N[i]? = some y) (hc : X.env.scope.names.lookup y = some .cell)
    (hd : (x == ("__debug__" : Str)) = false := by decide) (hd2 : (y == ("__debug__" : Str)) = false := by decide) (hcd : (y == ("__classdict__" : Str)) = false := by decide) :
    Elt1 X scope P x (.BinOp (.Name x p1) .Mult (.Name y p2) p3) (fun σ v => ∃ a b : Int, v = .int a ∧ σ[i]? = some (some (.int b)) ∧ CMul a b) (fun σ v => mulAt i σ v) := by
  intro pins σ H s1 cenv B Er s2 m2 v u I a hB hx rv hp
  obtain ⟨m, n, rfl, hσ, hm⟩ := hp
  obtain ⟨t, rfl⟩ := rv
  refine wpAny_BinOp (own_name a hk hl hx (free_name a I hk hf hN hc hσ (fun z rz => ?_) hd2 hcd) hd)
  obtain ⟨t', rfl⟩ := rz
  refine mul_int ⟨?_, keeps_tok _ _⟩ hm.ok
  have e : mulAt i σ (V.int m) = V.int (m * n) := by
    unfold mulAt
    rw [hσ]
  show RelV (mulAt i σ (V.int m)) _
  rw [e]
  exact ⟨_, rfl⟩
def Ints2 (v w : V) : Prop := ∃ i j : Int, v = .int i ∧ w = .int j
section
variable {X : Cx} {scope : Scope} {P : Addr} {xa xb : Str} {p1 p2 p3 p4 : Pos} (hk : scope.kind = .function) (hl : scope.names.lookup xa = some .local) (hl2 : scope.names.lookup xb = some .local)
    (hd : (xa == ("__debug__" : Str)) = false := by decide) (hd2 : (xb == ("__debug__" : Str)) = false := by decide)
include hk hl hl2 hd hd2
theorem elt_add : Elt2 X scope P xa xb (.BinOp (.Name xa p1) .Add (.Name xb p2) p3) (fun _ v w => Ints2 v w) (fun _ v w => add2 v w) := by
  intro pins σ H s1 cenv B Er s2 m2 v w u z I a hB hx hy rv rw' hp
  obtain ⟨i, j, rfl, rfl⟩ := hp
  obtain ⟨t, rfl⟩ := rv
  obtain ⟨t', rfl⟩ := rw'
  exact wpAny_BinOp (own_name a hk hl hx (own_name a hk hl2 hy (add_int ⟨⟨_, rfl⟩, keeps_tok _ _⟩) hd2) hd)
theorem elt_sub : Elt2 X scope P xa xb (.BinOp (.Name xa p1) .Sub (.Name xb p2) p3) (fun _ v w => Ints2 v w) (fun _ v w => sub2 v w) := by
  intro pins σ H s1 cenv B Er s2 m2 v w u z I a hB hx hy rv rw' hp
  obtain ⟨i, j, rfl, rfl⟩ := hp
  obtain ⟨t, rfl⟩ := rv
  obtain ⟨t', rfl⟩ := rw'
  exact wpAny_BinOp (own_name a hk hl hx (own_name a hk hl2 hy (sub_int ⟨⟨_, rfl⟩, keeps_tok _ _⟩) hd2) hd)
theorem elt_le : Elt2 X scope P xa xb (.Compare (.Name xa p1) [.LtE] [.Name xb p2] p3) (fun _ v w => Ints2 v w) (fun _ v w => le2 v w) := by
  intro pins σ H s1 cenv B Er s2 m2 v w u z I a hB hx hy rv rw' hp
  obtain ⟨i, j, rfl, rfl⟩ := hp
  obtain ⟨t, rfl⟩ := rv
  obtain ⟨t', rfl⟩ := rw'
  exact wpAny_Compare1 (own_name a hk hl hx (own_name a hk hl2 hy (le_int ⟨rfl, keeps_refl _⟩) hd2) hd)
theorem elt_min (gP : mainGlobals ≠ P) (hg : scope.names.lookup ("min" : Str) = some .globalImplicit) (hm : X.mg "min" = none) :
    Elt2 X scope P xa xb (.Call (.Name "min" p1) [.Name xa p2, .Name xb p3] [] p4) (fun _ v w => Ints2 v w) (fun _ v w => min2 v w) := by
  intro pins σ H s1 cenv B Er s2 m2 v w u z I a hB hx hy rv rw' hp
  obtain ⟨i, j, rfl, rfl⟩ := hp
  obtain ⟨t, rfl⟩ := rv
  obtain ⟨t', rfl⟩ := rw'
  refine wpAny_Call_Name_kw (blt_name (u := .builtin "min") a I gP hk hg hm (by decide +kernel) ?_)
  refine PyProof.Rows.callWith_builtin1 ?_ rfl rfl
  refine PyProof.Rows.args_cons (own_name a hk hl hx ?_ hd) rfl
  refine PyProof.Rows.args_cons (own_name a hk hl2 hy ?_ hd2) rfl
  refine PyProof.Rows.args_nil ?_
  refine min_two_ints hB fun h' tk kp => ⟨?_, ⟨h', tk, rfl, kp⟩⟩
  show ∃ t0, _ = Value.int (if j < i then j else i) t0
  by_cases hj : j < i
  · rw [if_pos hj, if_pos hj]
    exact ⟨_, rfl⟩
  · rw [if_neg hj, if_neg hj]
    exact ⟨_, rfl⟩
end
end GX

namespace My
open PySem PySem.Spec PyProof.Rows L2 GX GxR
/-! heaps -/
/-- all that was tracked outside of S is as it was -/
def Kp (S : List Addr) (H H' : Hp) : Prop := ∀ x o, x ∉ S → H x = some o → H' x = some o
theorem Kp.refl (S : List Addr) (H : Hp) : Kp S H H := fun _ _ _ h => h
theorem Kp.trans {S : List Addr} {H H1 H2 : Hp} (a : Kp S H H1) (b : Kp S H1 H2) : Kp S H H2 := fun x o n h => b x o n (a x o n h)
theorem Kp.mono {S T : List Addr} {H H' : Hp} (a : Kp S H H') (h : ∀ x ∈ S, x ∈ T) : Kp T H H' := fun x o n e => a x o (fun z => n (h x z)) e
theorem Same.kp {H H' : Hp} (S : List Addr) (a : Same H H') : Kp S H H' := fun x o _ h => a x o h
theorem Kp.seq {K : PySem.W.Frag} {S : List Addr} {H H' : Hp} {a : Addr} {xs : List V} (e : Kp S H H') (h : SqL K H a xs) (n : a ∉ S) : SqL K H' a xs := by
  rcases h with (h | ⟨o, h⟩) | h
  · exact .inl (.inl (e _ _ n h))
  · exact .inl (.inr ⟨o, e _ _ n h⟩)
  · exact .inr h
theorem kp_upd {S : List Addr} {H : Hp} {p : Addr} {o : HO} (h : p ∈ S) : Kp S H (upd H p o) := fun b x n e => by
  rw [upd_ne (fun z => n (by rw [z]; exact h))]
  exact e
theorem same_upd {H : Hp} {p : Addr} {o : HO} (h : H p = none) : Same H (upd H p o) := fun b x e => by
  rw [upd_ne (ne_of_none e h)]
  exact e
theorem iteJ {c A B R : Prop} [Decidable c] (h1 : c → R → A) (h2 : ¬ c → R → B) (r : R) : if c then A else B := by
  by_cases h : c
  · rw [if_pos h]
    exact h1 h r
  · rw [if_neg h]
    exact h2 h r
/-- the built-in names that the text uses -/
structure Txt (mg : Str → Option Value) : Prop where
  len : mg "len" = none
  abs : mg "abs" = none
  isi : mg "isinstance" = none
  lst : mg "list" = none
  tup : mg "tuple" = none
  zip : mg "zip" = none
  all : mg "all" = none
  str : mg "str" = none
  int : mg "int" = none
  bool : mg "bool" = none
  max : mg "max" = none
  min : mg "min" = none
  range : mg "range" = none
/-- a drawing box: what is left of its digits, its mixed number, how often it was asked (at most c) -/
def BoxV (xs : List V) (c : Int) : Prop := ∃ d m t : Int, xs = [.int d, .int m, .int t] ∧ 0 ≤ d ∧ 0 ≤ m ∧ m < 2147483629 ∧ 0 ≤ t ∧ t ≤ c
def BoxAt (H : Hp) (b : Addr) (c : Int) : Prop := ∃ xs, H b = some (.lst xs) ∧ BoxV xs c
def spBox (K : PySem.W.Frag) : Sp := fun vs H Q _ => ∃ (a : Addr) (ns : List Int) (k : Nat), vs = [.ref a, .int (k : Int)] ∧ SqL K H a (ns.map V.int) ∧ k ≤ 1000 ∧
  ∀ p xs, H p = none → BoxV xs 0 → Q (.ref p) (upd H p (.lst xs))
def spTake : Sp := fun vs H Q _ => ∃ (b : Addr) (c many : Int), vs = [.ref b, .int many] ∧ BoxAt H b c ∧ 0 < many ∧ many < 1073741824 ∧ c ≤ 1000000000 ∧
  ∀ r H', 0 ≤ r → r < many → Kp [b] H H' → BoxAt H' b (c + 1) → Q (.int r) H'
theorem walk_zipT {K : PySem.W.Frag} {a b : Addr} {xs ys : List V} {n : Nat} (hn : n = min xs.length ys.length) : Walk (RZ.ItzT K a b) n (fun H => SqT K H a xs ∧ SqT K H b ys) (YPair (fun i => xs[i]?) (fun i => ys[i]?)) := by
  subst hn
  refine ⟨fun i _ hi q => ?_, fun _ q => ⟨xs, ys, q.1, q.2, by omega⟩, fun i H v H' _ q y => ?_⟩
  · have h1 : i < xs.length := by omega
    have h2 : i < ys.length := by omega
    exact ⟨xs, ys, xs[i], ys[i], q.1, q.2, by simp [h1], by simp [h2]⟩
  · obtain ⟨T, x, z, h1, h2, h3, h4, h5⟩ := y
    exact ⟨T, x, z, h1, h2, h3, h4 xs q.1, h5 ys q.2⟩
/-! alike -/
def Leaf (x y : V) : Prop := (∃ b, x = .bl b ∧ y = .bl b) ∨ (∃ i, x = .int i ∧ y = .int i) ∨ (∃ z, x = .str z ∧ y = .str z) ∨ (x = .non ∧ y = .non)
def Al (H : Hp) : Nat → V → V → Prop
  | 0, x, y => Leaf x y
  | n + 1, x, y => Leaf x y ∨ ∃ (a b : Addr) (xs ys : List V), x = .ref a ∧ y = .ref b ∧ ((H a = some (.lst xs) ∧ H b = some (.lst ys)) ∨ (H a = some (.tup xs) ∧ H b = some (.tup ys))) ∧ xs.length = ys.length ∧ xs.length < 100000 ∧
      ∀ (i : Nat) (x y : V), xs[i]? = some x → ys[i]? = some y → Al H n x y
theorem Al.leaf {H : Hp} {x y : V} (h : Leaf x y) : ∀ n, Al H n x y
  | 0 => h
  | _ + 1 => .inl h
theorem Al.same {H H' : Hp} (e : Same H H') : ∀ (n : Nat) (x y : V), Al H n x y → Al H' n x y
  | 0, _, _, h => h
  | n + 1, x, y, h => by
    rcases h with h | ⟨a, b, xs, ys, e1, e2, h, hl, hl2, k⟩
    · exact .inl h
    · refine .inr ⟨a, b, xs, ys, e1, e2, ?_, hl, hl2, fun i x y h1 h2 => Al.same e n x y (k i x y h1 h2)⟩
      rcases h with ⟨h1, h2⟩ | ⟨h1, h2⟩
      · exact .inl ⟨e _ _ h1, e _ _ h2⟩
      · exact .inr ⟨e _ _ h1, e _ _ h2⟩
theorem kany {K : PySem.W.Frag} {t : String} {b1 b2 : Bool} (h1 : kitB t "list" = some b1) (h2 : kitB t "tuple" = some b2) : PySem.W.kitAny K (.type t) [.type "list", .type "tuple"] = some (b1 || b2) := by
  unfold PySem.W.kitAny
  rw [kit_ty h1]
  cases b1 with
  | true => rfl
  | false =>
    show PySem.W.kitAny K (.type t) [.type "tuple"] = _
    unfold PySem.W.kitAny
    rw [kit_ty h2]
    cases b2 <;> rfl
theorem pairT : Paired ClsV [V.ty "list", V.ty "tuple"] [Value.type "list", Value.type "tuple"] := .cons (.ty _) (.cons (.ty _) .nil)
def spAlike (n : Nat) : Sp := fun vs H Q _ => ∃ x y : V, vs = [x, y] ∧ Al H n x y ∧ ∀ H', Same H H' → Q (.bl true) H'
section
variable {X : Cx}
theorem pe_isT {e : Expr} {te : TE} {p1 p2 p3 p4 p5 : Pos} {kk : Nat} (T : Txt X.mg) (g1 : Gl X "isinstance") (g2 : Gl X "list") (g3 : Gl X "tuple") (he : PE X e te)
    (h1 : starEach [e, .Tuple [.Name "list" p2, .Name "tuple" p3] kk p4] X.env = (false, eval e X.env) :: starEach [.Tuple [.Name "list" p2, .Name "tuple" p3] kk p4] X.env := by rfl) :
    PE X (.Call (.Name "isinstance" p1) [e, .Tuple [.Name "list" p2, .Name "tuple" p3] kk p4] [] p5) (tCB (rIsiT X.K) (tCons te (tCons (tTup (tCons (tC (.ty "list")) (tCons (tC (.ty "tuple")) tNil))) tNil))) :=
  pe_callB call_isiT g1 T.isi (by decide +kernel) (pa_cons he (pa_cons (pe_tup (pa_cons (pe_bltn g2 T.lst (by decide +kernel) rfl) (pa_cons (pe_bltn g3 T.tup (by decide +kernel) rfl) pa_nil))) pa_nil) h1) (by decide) (by decide) h1
theorem pe_isi {e : Expr} {te : TE} {x : Str} {c : String} {p1 p2 p5 : Pos} (T : Txt X.mg) (g1 : Gl X "isinstance") (g2 : Gl X x) (m2 : X.mg x = none) (b2 : bootBuiltins x = some (.type c)) (he : PE X e te)
    (hn : x ≠ "__name__" := by decide) (hd : (x == ("__debug__" : Str)) = false := by decide)
    (h1 : starEach [e, .Name x p2] X.env = (false, eval e X.env) :: starEach [.Name x p2] X.env := by rfl) :
    PE X (.Call (.Name "isinstance" p1) [e, .Name x p2] [] p5) (tCB (rIsi X.K) (tCons te (tCons (tC (.ty c)) tNil))) :=
  pe_callB call_isi g1 T.isi (by decide +kernel) (pa_cons he (pa_cons (pe_bltn g2 m2 b2 rfl hn hd) pa_nil) h1) (by decide) (by decide) h1
theorem bt_list : bootBuiltins "list" = some (.type "list") := by decide +kernel
theorem bt_tuple : bootBuiltins "tuple" = some (.type "tuple") := by decide +kernel
theorem bt_str : bootBuiltins "str" = some (.type "str") := by decide +kernel
theorem bt_int : bootBuiltins "int" = some (.type "int") := by decide +kernel
theorem bt_bool : bootBuiltins "bool" = some (.type "bool") := by decide +kernel
end
theorem kB1 : kitB "int" "list" = some false := by decide +kernel
theorem kB2 : kitB "int" "tuple" = some false := by decide +kernel
theorem kB3 : kitB "bool" "list" = some false := by decide +kernel
theorem kB4 : kitB "bool" "tuple" = some false := by decide +kernel
theorem kB5 : kitB "str" "list" = some false := by decide +kernel
theorem kB6 : kitB "str" "tuple" = some false := by decide +kernel
theorem kB7 : kitB "NoneType" "list" = some false := by decide +kernel
theorem kB8 : kitB "NoneType" "tuple" = some false := by decide +kernel
theorem kB9 : kitB "list" "list" = some true := by decide +kernel
theorem kB10 : kitB "list" "tuple" = some false := by decide +kernel
theorem kB11 : kitB "tuple" "list" = some false := by decide +kernel
theorem kB12 : kitB "tuple" "tuple" = some true := by decide +kernel
theorem BoxAt.same {H H' : Hp} {b : Addr} {c : Int} (e : Same H H') (h : BoxAt H b c) : BoxAt H' b c := by
  obtain ⟨xs, h1, h2⟩ := h
  exact ⟨xs, e _ _ h1, h2⟩
theorem BoxAt.kp {S : List Addr} {H H' : Hp} {b : Addr} {c : Int} (e : Kp S H H') (n : b ∉ S) (h : BoxAt H b c) : BoxAt H' b c := by
  obtain ⟨xs, h1, h2⟩ := h
  exact ⟨xs, e _ _ n h1, h2⟩
/-- the boxes of a script: new lists, no two of them one, at D the list of them -/
structure Boxes (H H' : Hp) (D : Addr) (bs : List Addr) : Prop where
  same : Same H H'
  lst : H' D = some (.lst (bs.map V.ref))
  box : ∀ b ∈ bs, BoxAt H' b 0
  new : ∀ b ∈ bs, H b = none
  nd : bs.Nodup
  no : D ∉ bs
  nD : H D = none
def spCells (K : PySem.W.Frag) : Sp := fun vs H Q _ => ∃ (a : Addr) (ns : List Int), vs = [.ref a] ∧ SqL K H a (ns.map V.int) ∧ ns.length ≤ 63 ∧ ∀ H' D bs, Boxes H H' D bs → bs.length ≤ 63 → Q (.ref D) H'
/-- a def whose code object stands at c -/
structure FunC (K : PySem.W.Frag) (x qual : Str) (st : Stmt) (f : Addr) (fd : FuncData) (c : Addr) : Prop where
  ex : ∃ (oc : Value) (od : Option Addr) (kV doc pm : Value) (an : Option Addr) (ct : Value) (osl : Array (Option Value)),
    fd = PySem.W.fnOf x qual (defArgs st) (defBody st) (defScope st) .none kV doc pm an (.ref c) ct ∧ K.lookup f = some ⟨oc, od, .func fd, osl⟩ ∧ PySem.W.codeIn K (.ref c) qual = true
  kp : PySem.W.keepIn K (.ref f) = true
theorem FunC.fn {K : PySem.W.Frag} {x qual : Str} {st : Stmt} {f c : Addr} {fd : FuncData} (F : FunC K x qual st f fd c) : Fun K x qual st f fd := by
  obtain ⟨⟨oc, od, kV, doc, pm, an, ct, osl, e, l, h⟩, k⟩ := F
  exact ⟨⟨oc, od, kV, doc, pm, an, .ref c, ct, osl, e, l, h⟩, k⟩
section
variable {P : Program} {w : World} {K : PySem.W.Frag} {mg : Str → Option Value} {base : Heap}
theorem FunC.ok {x qual : Str} {st : Stmt} {f c : Addr} {fd : FuncData} {N ps : List Str} {k : Nat} {sp : Sp} (F : FunC K x qual st f fd c) (S : FnScope N ps (defScope st)) (len : ∀ vs H Q E, sp vs H Q E → vs.length = ps.length)
    (hbody : ∀ (A : Around) (outer : List Env) (s : Shared) (H : Hp) (vs : List V) (Q : VK) (E : XK), Room k (A.deeper (envOfC qual (defScope st) s.heap.objs.size f (.ref c))) → sp vs H Q E →
      ∃ t, PSs (cxOf CX0 P w K mg base N qual (defScope st) f (.ref c) A outer s H E).nox (defBody st) t ∧ t { nx := fun _ H' => Q .non H', rt := Q } (start N vs) H) :
    FnOk P w K mg base CX0 (k + 1) f fd ps sp := by
  obtain ⟨oc, od, kV, doc, pm, an, ct, osl, rfl, lk, hcd⟩ := F.ex
  refine fn_of lk hcd S len fun A outer s H vs Q E hr hsp => ?_
  obtain ⟨t, h1, h2⟩ := hbody A outer s H vs Q E hr hsp
  exact ⟨t, h1.nox, h2⟩
/-- what a generator expression's scope is checked for, where it captures nothing -/
def genC (scope : Scope) (x : Str) : Bool :=
  decide (scope.kind = .function) && decide (scope.isCoroutine = false) && scope.names.all (fun y => decide (y.2 ≠ .cell) && decide (y.2 ≠ .free)) && decide (scope.names.lookup (".0" : Str) = some NameKind.local) && decide (scope.names.lookup x = some NameKind.local)
theorem genS_of {sc scope : Scope} {x : Str} (h : genC scope x = true) : GenV sc scope x := by
  unfold genC at h
  simp only [Bool.and_eq_true, decide_eq_true_eq, List.all_eq_true] at h
  obtain ⟨⟨⟨⟨h1, h2⟩, h3⟩, h4⟩, h5⟩ := h
  exact ⟨h1, h2, fun y hy => (h3 y hy).1, h4, h5, fun y hy e => absurd e (h3 y hy).2⟩
/-- .. and where it captures names of the def -/
def genCF (sc scope : Scope) (x : Str) : Bool :=
  decide (scope.kind = .function) && decide (scope.isCoroutine = false) && scope.names.all (fun y => decide (y.2 ≠ .cell) && (decide (y.2 ≠ .free) || decide (sc.names.lookup y.1 = some .cell))) && decide (scope.names.lookup (".0" : Str) = some NameKind.local) && decide (scope.names.lookup x = some NameKind.local)
theorem genF_of {sc scope : Scope} {x : Str} (h : genCF sc scope x = true) : GenV sc scope x := by
  unfold genCF at h
  simp only [Bool.and_eq_true, Bool.or_eq_true, decide_eq_true_eq, List.all_eq_true] at h
  obtain ⟨⟨⟨⟨h1, h2⟩, h3⟩, h4⟩, h5⟩ := h
  refine ⟨h1, h2, fun y hy => (h3 y hy).1, h4, h5, fun y hy e => ?_⟩
  rcases (h3 y hy).2 with z | z
  · exact absurd e z
  · exact .inl z
end
/-- between two turns of the law -/
structure Good (T D : Addr) (bs : List Addr) (i : Nat) (H : Hp) : Prop where
  tab : TabG H T
  lst : H D = some (.lst (bs.map V.ref))
  box : ∀ (j : Nat) (b : Addr), i ≤ j → bs[j]? = some b → BoxAt H b 0
theorem TabG.same {H H' : Hp} {T : Addr} (e : Same H H') (h : TabG H T) : TabG H' T := by
  obtain ⟨ps, h1, h2⟩ := h
  exact ⟨ps, e _ _ h1, h2⟩
theorem TabG.kp {S : List Addr} {H H' : Hp} {T : Addr} (e : Kp S H H') (n : T ∉ S) (h : TabG H T) : TabG H' T := by
  obtain ⟨ps, h1, h2⟩ := h
  exact ⟨ps, e _ _ n h1, h2⟩
theorem tab_ne {H : Hp} {T b : Addr} {o : HO} (h : TabG H T) (e : H b = some o) (n : ∀ ps, o ≠ .tbl ps) : b ≠ T := fun z => by
  obtain ⟨ps, h1, _⟩ := h
  rw [z, h1] at e
  exact n ps (Option.some.inj e).symm
theorem tab_nb {H : Hp} {T b : Addr} {c : Int} (h : TabG H T) (B : BoxAt H b c) : b ≠ T := by
  obtain ⟨xs, h1, _⟩ := B
  exact tab_ne h h1 fun ps z => by cases z
theorem Good.same {T D : Addr} {bs : List Addr} {i : Nat} {H H' : Hp} (g : Good T D bs i H) (e : Same H H') : Good T D bs i H' :=
  ⟨TabG.same e g.tab, e _ _ g.lst, fun j b h1 h2 => (g.box j b h1 h2).same e⟩
theorem Good.kpT {T D : Addr} {bs : List Addr} {i : Nat} {H H' : Hp} (g : Good T D bs i H) (e : Kp [T] H H') (h : TabG H' T) : Good T D bs i H' := by
  refine ⟨h, e _ _ (fun z => ?_) g.lst, fun j b h1 h2 => (g.box j b h1 h2).kp e fun z => ?_⟩
  · exact tab_ne g.tab g.lst (fun ps z => by cases z) (List.mem_singleton.mp z)
  · exact tab_nb g.tab (g.box j b h1 h2) (List.mem_singleton.mp z)
theorem Good.kpb {T D b : Addr} {bs : List Addr} {i : Nat} {H H' : Hp} {c : Int} (g : Good T D bs (i + 1) H) (B : BoxAt H b c) (hb : bs[i]? = some b) (nd : bs.Nodup) (no : D ∉ bs) (e : Kp [b] H H') : Good T D bs (i + 1) H' := by
  refine ⟨TabG.kp e (fun z => tab_nb g.tab B (List.mem_singleton.mp z).symm) g.tab, e _ _ (fun z => no (by rw [List.mem_singleton.mp z]; exact List.mem_of_getElem? hb)) g.lst, fun j b' h1 h2 => (g.box j b' h1 h2).kp e fun z => ?_⟩
  obtain ⟨q1, e1⟩ := List.getElem?_eq_some_iff.mp hb
  obtain ⟨q2, e2⟩ := List.getElem?_eq_some_iff.mp h2
  exact List.pairwise_iff_getElem.mp nd i j q1 q2 (by omega) (by rw [e1, e2]; exact (List.mem_singleton.mp z).symm)
theorem al_list {H : Hp} {p q : Addr} {xs ys : List V} (h1 : H p = some (.lst xs)) (h2 : H q = some (.lst ys)) (hl : xs.length = ys.length) (hs : xs.length < 100000) (k : ∀ (i : Nat) (x y : V), xs[i]? = some x → ys[i]? = some y → Leaf x y) : Al H 1 (.ref p) (.ref q) :=
  .inr ⟨p, q, xs, ys, rfl, rfl, .inl ⟨h1, h2⟩, hl, hs, fun i x y a b => k i x y a b⟩
/-- the end of a law that reaches generator expressions: the head's own words of the top go on to the promise -/
theorem walk_tabs {l : PySem.W.OpenLaw} {n k : Nat} {q : Program} {loose : List Str} {XP : (Str → Option Value) → Heap → Prop} {YP : World → Heap → Prop} {d : DefRec} {K : Params → PySem.W.Frag} {x : Str}
    (hn : l.most = some n) (hn2 : n ≤ sizeLine) (hdf : d.params.defaults = []) (hr : Room k callerA) (hY : ∀ (w : World) (h : Heap), YP w h → (K w.params).In h)
    (F : ∀ (w : World) (mg mb : Str → Option Value) (mean : ExcName → Option Value) (fa : Addr) (h : Heap), PyProof.Rows.Top q (PySem.W.looseW q loose) mean mg mb h → (K w.params).In h → mg d.name = some (.ref fa) → LamX.LawAtS l w (K w.params) CX0 k n x mg fa h) :
    PySem.W.WalkO q loose XP YP l.row.toRowW d [] (fun f vs => PySem.call f vs) := by
  refine Att.attach_callB hn hdf fun w s0 s1 mg mb fa o pm cd doc a vs ns G Y ho hd hcd hmg hobj hints hlen hbits hg => ?_
  have KX := hY w _ Y
  obtain ⟨fd, cs, sp, h1, h2, h3, h4, h5, h6⟩ := F w mg mb _ fa _ G.T KX hmg
  exact LamX.law_callTs KX G.T.g G.T.b G.T.builtins G.T.nolimit hg h1 h2 h3 G.T.bmain hobj hints (Nat.le_trans hlen hn2) hr h6 h4 (fun H hH hS => h5 H a ns hlen hbits hH hS) fun H e s' z => z
theorem tab_at {p : Program} {loose : List Str} {mean : ExcName → Option Value} {mg mb : Str → Option Value} {h : Heap} {K : PySem.W.Frag} {x : Str} {c T : Addr} (Z : PyProof.Rows.Top p loose mean mg mb h) (X : K.In h)
    (hr : ((recsOf p).any fun e => e.name == x) = true) (ht : PySem.W.tabIn K x = some (c, T)) : PySem.W.CodeHd h c T ∧ h.get? T = some { cls := .none, data := .fields #[] } := by
  cases e : (recsOf p).find? (fun e => e.name == x) with
  | none =>
    obtain ⟨d, hd, hx⟩ := List.any_eq_true.mp hr
    exact absurd hx (List.find?_eq_none.mp e d hd)
  | some d => exact PySem.W.tab_of Z X e ht
theorem tab_in {K : PySem.W.Frag} {x : Str} {f c T : Addr} {oc e : Value} {od ed : Option Addr} {fd : FuncData} {sl es : Array (Option Value)} {vs : Array Value} (a : PySem.W.nsIn K mainGlobals x = some (some (.ref f))) (l : K.lookup f = some ⟨oc, od, .func fd, sl⟩) (hc : fd.code = .ref c)
    (u : K.lookup c = some ⟨e, ed, .fields vs, es⟩) (v : vs[11]? = some (.ref T)) : PySem.W.tabIn K x = some (c, T) := by
  unfold PySem.W.tabIn
  simp only [a, l, hc, u, v]
end My

namespace GX
open PySem PySem.Spec PyProof.Rows L2
open AutoSeq1 (wpAny_loadPart')
theorem tuple_once (l : Addr) (items : Array Value) (n : Nat) (dd : Option Addr) (sl : Array (Option Value)) (u : Tok) :
    Meets (Builtin.«tuple.__mul__» ⟨[.ref l, .int 1 u], []⟩) (fun _ R s => s.heap.get? l = some { cls := .type "tuple", dict := dd, data := .seq items n, slots := sl } ∧ R (.ok (.ret (Value.ref l))) s) :=
  .of_wp fun prog w A R s h => by
    obtain ⟨hp, g, d, tk, os⟩ := s
    obtain ⟨hl, h⟩ := h
    have f1 := AutoSeq1.idx_int
    wp_walk using wpAny_loadPart' hl
    exact ⟨_, rfl, h⟩
/-- t * k, k from 1 on: once is the tuple itself -/
def rRepU (K : PySem.W.Frag) : R2 := fun x y H Q => ∃ l k xs, x = .ref l ∧ y = .int k ∧ SqT K H l xs ∧ xs ≠ [] ∧ 1 ≤ k ∧ k ≤ 1000 ∧ xs.length ≤ 1000 ∧
  (k = 1 → Q (.ref l) H) ∧ (k ≠ 1 → ∀ p, H p = none → Q (.ref p) (upd H p (.tup (List.replicate k.toNat xs).flatten)))
theorem op_repU {X : Cx} : OpR X (binaryOp .Mult) (rRepU X.K) := by
  intro pins s σ H x y v u Q I rx ry h
  obtain ⟨l, k, xs, rfl, rfl, hT, hne, h1, h2, hz, q1, q2⟩ := h
  by_cases hk : k = 1
  · subst hk
    cases rx
    obtain ⟨t, rfl⟩ := ry
    obtain ⟨its, r, ⟨⟨cls, dd, data, sl⟩, ho, hc, n, hd⟩, hs⟩ := I.tuple hT
    simp only at hc hd
    subst hc hd
    exact wpAny_binaryOp_repeat_ref (T := "tuple") (U := "int") (by decide) ⟨_, ho, rfl⟩ (fun s' => typeIs_int s' 1 t) noFill_tuple_mul F.fills_int_mul F.slot_int_rmul repeat_tuple F.slot_int_index.lookup
      (call_meets F.slot_int_rmul (typeIs_int s 1 t) F.entry_int_rmul (F.args_int_rmul_2 _ _) (int_rmul_tuple 1 t l its.toArray n dd sl)
        ⟨ho, rfl, ⟨_, ho, rfl⟩, call_meets F.slot_tuple_mul ⟨_, ho, rfl⟩ F.entry_tuple_mul (F.args_tuple_mul_2 _ _) (tuple_once l its.toArray n dd sl t) ⟨ho, ⟨.ref l, H, I, rfl, q1 rfl⟩⟩⟩)
  · exact op_repT pins s σ H _ _ v u Q I rx ry ⟨l, k, xs, rfl, rfl, hT, hne, by omega, h2, hz, q2 hk⟩
end GX

namespace My
open PySem PySem.Spec PyProof.Rows L2 GX GxR
/-- what is known within a turn of a law: the tables of the code objects Ts, the box at b (asked at most c times), the things fs that stay -/
structure Wd (Ts : List Addr) (b : Addr) (c : Int) (fs : List (Addr × HO)) (H : Hp) : Prop where
  tab : ∀ T ∈ Ts, TabG H T
  box : BoxAt H b c
  obj : ∀ f ∈ fs, H f.1 = some f.2
  off : ∀ f ∈ fs, f.1 ≠ b ∧ f.1 ∉ Ts
section
variable {Ts : List Addr} {b : Addr} {c : Int} {fs : List (Addr × HO)} {H H' : Hp}
theorem Wd.nbT (W : Wd Ts b c fs H) {T : Addr} (h : T ∈ Ts) : b ≠ T := tab_nb (W.tab T h) W.box
theorem Wd.same (W : Wd Ts b c fs H) (e : Same H H') : Wd Ts b c fs H' :=
  ⟨fun T h => TabG.same e (W.tab T h), W.box.same e, fun f h => e _ _ (W.obj f h), W.off⟩
theorem Wd.asked (W : Wd Ts b c fs H) {c' : Int} (e : Kp [b] H H') (B : BoxAt H' b c') : Wd Ts b c' fs H' :=
  ⟨fun T h => TabG.kp e (fun z => W.nbT h (List.mem_singleton.mp z).symm) (W.tab T h), B, fun f h => e _ _ (fun z => (W.off f h).1 (List.mem_singleton.mp z)) (W.obj f h), W.off⟩
theorem Wd.grown (W : Wd Ts b c fs H) {T : Addr} (h : T ∈ Ts) (e : Kp [T] H H') (t : TabG H' T) : Wd Ts b c fs H' := by
  refine ⟨fun T' h' => ?_, W.box.kp e fun z => W.nbT h (List.mem_singleton.mp z), fun f hf => e _ _ (fun z => (W.off f hf).2 (by rw [List.mem_singleton.mp z]; exact h)) (W.obj f hf), W.off⟩
  by_cases z : T' = T
  · rw [z]
    exact t
  · exact TabG.kp e (fun q => z (List.mem_singleton.mp q)) (W.tab T' h')
/-- a thing that is new -/
theorem Wd.new {c0 : Int} (W : Wd Ts b c0 fs H) {p : Addr} {o : HO} (n : H p = none) (e : H' p = some o) (W' : Wd Ts b c fs H') : Wd Ts b c ((p, o) :: fs) H' := by
  refine ⟨W'.tab, W'.box, fun f hf => ?_, fun f hf => ?_⟩
  · rcases List.mem_cons.mp hf with z | z
    · rw [z]
      exact e
    · exact W'.obj f z
  · rcases List.mem_cons.mp hf with z | z
    · rw [z]
      refine ⟨fun q => ?_, fun q => ?_⟩
      · obtain ⟨xs, h1, _⟩ := W.box
        exact ne_of_none h1 n (Eq.symm q)
      · obtain ⟨ps, h1, _⟩ := W.tab _ q
        rw [show H p = some (.tbl ps) from h1] at n
        cases n
    · exact W'.off f z
theorem Wd.laid (W : Wd Ts b c fs H) {p : Addr} {o : HO} (n : H p = none) : Wd Ts b c ((p, o) :: fs) (upd H p o) :=
  W.new n upd_same (W.same (same_upd n))
theorem Wd.le (W : Wd Ts b c fs H) {c' : Int} (h : c ≤ c') : Wd Ts b c' fs H := by
  obtain ⟨xs, h1, d, m, t, h2, h3, h4, h5, h6, h7⟩ := W.box
  exact ⟨W.tab, ⟨xs, h1, d, m, t, h2, h3, h4, h5, h6, by omega⟩, W.obj, W.off⟩
end
/-- between two turns, of several tables -/
structure GoodS (Ts : List Addr) (D : Addr) (bs : List Addr) (i : Nat) (H : Hp) : Prop where
  tab : ∀ T ∈ Ts, TabG H T
  lst : H D = some (.lst (bs.map V.ref))
  box : ∀ (j : Nat) (b : Addr), i ≤ j → bs[j]? = some b → BoxAt H b 0
/-- the things that stay within turn i -/
def keptIn (D : Addr) (bs : List Addr) (i : Nat) (H : Hp) : List (Addr × HO) := (D :: bs.drop (i + 1)).map fun a => (a, (H a).getD (.lst []))
theorem GoodS.inn {Ts : List Addr} {D b : Addr} {bs : List Addr} {i : Nat} {H : Hp} (g : GoodS Ts D bs i H) (hb : bs[i]? = some b) (nd : bs.Nodup) (no : D ∉ bs) : Wd Ts b 0 (keptIn D bs i H) H := by
  have B := g.box i b (Nat.le_refl _) hb
  have at_ : ∀ a ∈ D :: bs.drop (i + 1), ∃ xs, H a = some (.lst xs) := fun a ha => by
    rcases List.mem_cons.mp ha with z | z
    · rw [z]
      exact ⟨_, g.lst⟩
    · obtain ⟨j, hj⟩ := List.mem_iff_getElem?.mp z
      rw [List.getElem?_drop] at hj
      obtain ⟨xs, h1, _⟩ := g.box (i + 1 + j) a (by omega) hj
      exact ⟨xs, h1⟩
  refine ⟨g.tab, B, fun f hf => ?_, fun f hf => ?_⟩
  · obtain ⟨a, ha, rfl⟩ := List.mem_map.mp hf
    obtain ⟨xs, h1⟩ := at_ a ha
    show H a = some ((H a).getD (.lst []))
    rw [h1]
    rfl
  · obtain ⟨a, ha, rfl⟩ := List.mem_map.mp hf
    obtain ⟨xs, h1⟩ := at_ a ha
    refine ⟨fun z => ?_, fun z => tab_ne (g.tab a z) h1 (fun ps q => by cases q) rfl⟩
    have z' : a = b := z
    rcases List.mem_cons.mp ha with q | q
    · exact no (by rw [← q, z']; exact List.mem_of_getElem? hb)
    · obtain ⟨j, hj⟩ := List.mem_iff_getElem?.mp q
      rw [List.getElem?_drop] at hj
      obtain ⟨q1, e1⟩ := List.getElem?_eq_some_iff.mp hb
      obtain ⟨q2, e2⟩ := List.getElem?_eq_some_iff.mp hj
      exact List.pairwise_iff_getElem.mp nd i (i + 1 + j) q1 q2 (by omega) (by rw [e1, e2]; exact z'.symm)
theorem GoodS.out {Ts : List Addr} {D b : Addr} {bs : List Addr} {i : Nat} {c : Int} {fs : List (Addr × HO)} {H H' : Hp} (g : GoodS Ts D bs i H) (W : Wd Ts b c fs H') (h : ∀ f ∈ keptIn D bs i H, f ∈ fs) : GoodS Ts D bs (i + 1) H' := by
  have at_ : ∀ a ∈ D :: bs.drop (i + 1), H' a = some ((H a).getD (.lst [])) := fun a ha => W.obj (a, _) (h _ (List.mem_map.mpr ⟨a, ha, rfl⟩))
  refine ⟨W.tab, ?_, fun j b' h1 h2 => ?_⟩
  · have e := at_ D List.mem_cons_self
    rw [g.lst] at e
    exact e
  · have hm : b' ∈ bs.drop (i + 1) := by
      refine List.mem_iff_getElem?.mpr ⟨j - (i + 1), ?_⟩
      rw [List.getElem?_drop, show i + 1 + (j - (i + 1)) = j by omega]
      exact h2
    have e := at_ b' (List.mem_cons_of_mem _ hm)
    obtain ⟨xs, h3, h4⟩ := g.box j b' (by omega) h2
    rw [h3] at e
    exact ⟨xs, e, h4⟩
/-- an amount: numbers from 0 to 10 ** 12 -/
def Amt (ns : List Int) : Prop := ∀ n ∈ ns, 0 ≤ n ∧ n ≤ 1000000000000
def spWide : Sp := fun vs H Q _ => ∃ (b : Addr) (c : Int), vs = [.ref b] ∧ BoxAt H b c ∧ c ≤ 100000000 ∧ ∀ n H', 0 ≤ n → n ≤ 1000000000000 → Kp [b] H H' → BoxAt H' b (c + 6) → Q (.int n) H'
def spAmount : Sp := fun vs H Q _ => ∃ (b : Addr) (c : Int) (k : Nat), vs = [.ref b, .int (k : Int)] ∧ BoxAt H b c ∧ c ≤ 10000000 ∧ k ≤ 100 ∧
  ∀ p ns H', Amt ns → ns.length = k → Kp [b] H H' → BoxAt H' b (c + 600) → H p = none → H' p = some (.tup (ns.map V.int)) → Q (.ref p) H'
/-! two lists, place by place -/
inductive Prs (R : V → V → Prop) : List V → List V → Prop
  | nil : Prs R [] []
  | cons {x y : V} {xs ys : List V} : R x y → Prs R xs ys → Prs R (x :: xs) (y :: ys)
theorem Prs.len {R : V → V → Prop} : ∀ {xs ys : List V}, Prs R xs ys → xs.length = ys.length
  | _, _, .nil => rfl
  | _, _, .cons _ h => congrArg Nat.succ h.len
theorem Prs.get {R : V → V → Prop} : ∀ {xs ys : List V}, Prs R xs ys → ∀ (i : Nat) (x y : V), xs[i]? = some x → ys[i]? = some y → R x y
  | _, _, .nil, _, _, _, h, _ => by simp at h
  | _, _, .cons r h, 0, _, _, h1, h2 => by
    cases h1
    cases h2
    exact r
  | _, _, .cons r h, i + 1, x, y, h1, h2 => h.get i x y h1 h2
theorem Prs.ints {R : V → V → Prop} (r : ∀ i, R (.int i) (.int i)) : ∀ ns : List Int, Prs R (ns.map V.int) (ns.map V.int)
  | [] => .nil
  | n :: ns => .cons (r n) (Prs.ints r ns)
theorem al_int {H : Hp} {n : Nat} (i : Int) : Al H n (.int i) (.int i) := Al.leaf (.inr (.inl ⟨i, rfl, rfl⟩)) n
theorem al_bl {H : Hp} {n : Nat} (b : Bool) : Al H n (.bl b) (.bl b) := Al.leaf (.inl ⟨b, rfl, rfl⟩) n
theorem al_lst {H : Hp} {n : Nat} {p q : Addr} {xs ys : List V} (h1 : H p = some (.lst xs)) (h2 : H q = some (.lst ys)) (hs : xs.length < 100000) (k : Prs (Al H n) xs ys) : Al H (n + 1) (.ref p) (.ref q) :=
  .inr ⟨p, q, xs, ys, rfl, rfl, .inl ⟨h1, h2⟩, k.len, hs, k.get⟩
theorem al_tup {H : Hp} {n : Nat} {p q : Addr} {ns : List Int} (h1 : H p = some (.tup (ns.map V.int))) (h2 : H q = some (.tup (ns.map V.int))) (hs : ns.length < 100000) : Al H (n + 1) (.ref p) (.ref q) :=
  .inr ⟨p, q, _, _, rfl, rfl, .inr ⟨h1, h2⟩, rfl, by rw [List.length_map]; exact hs, (Prs.ints (fun i => al_int i) ns).get⟩
/-! what the amounts come to, number by number -/
def spNothing : Sp := fun vs H Q _ => ∃ k : Nat, vs = [.int (k : Int)] ∧ 1 ≤ k ∧ k ≤ 1000 ∧ ∀ p H', Same H H' → H p = none → H' p = some (.tup ((List.replicate k (0 : Int)).map V.int)) → Q (.ref p) H'
def spZip (K : PySem.W.Frag) (T : Addr) (op : Int → Int → Int) : Sp := fun vs H Q _ => ∃ (a b : Addr) (xs ys : List Int), vs = [.ref a, .ref b] ∧ SqT K H a (xs.map V.int) ∧ SqT K H b (ys.map V.int) ∧ xs.length ≤ 1000 ∧ TabG H T ∧
  ∀ p H', TabG H' T → Kp [T] H H' → H p = none → H' p = some (.tup ((List.zipWith op xs ys).map V.int)) → Q (.ref p) H'
def spZipS (K : PySem.W.Frag) (op : Int → Int → Int) : Sp := fun vs H Q _ => ∃ (a b : Addr) (xs ys : List Int), vs = [.ref a, .ref b] ∧ SqT K H a (xs.map V.int) ∧ SqT K H b (ys.map V.int) ∧ xs.length ≤ 1000 ∧
  ∀ p H', Same H H' → H p = none → H' p = some (.tup ((List.zipWith op xs ys).map V.int)) → Q (.ref p) H'
/-- one that leaves all as it was does so with a table, too -/
theorem zip_tab {K : PySem.W.Frag} {op : Int → Int → Int} (T : Addr) (vs : List V) (H : Hp) (Q : VK) (E : XK) (h : spZip K T op vs H Q E) : spZipS K op vs H Q E := by
  obtain ⟨a, b, xs, ys, e, hX, hY, hl, hT, q⟩ := h
  exact ⟨a, b, xs, ys, e, hX, hY, hl, fun p H' s n h => q p H' (TabG.same s hT) (Same.kp _ s) n h⟩
theorem get_int {xs : List Int} {i : Nat} {v : V} (h : (xs.map V.int)[i]? = some v) : ∃ x, xs[i]? = some x ∧ v = .int x := by
  rw [List.getElem?_map] at h
  cases e : xs[i]? with
  | none => rw [e] at h; cases h
  | some x =>
    rw [e] at h
    exact ⟨x, rfl, (Option.some.inj h).symm⟩
theorem same_putA {H H1 : Hp} {b : Addr} {o : HO} (s : Same H H1) (n : H b = none) : Same H (upd H1 b o) := fun x u e => by
  rw [upd_ne (ne_of_none e n)]
  exact s _ _ e
theorem zip_to {g : V → V → V} {op : Int → Int → Int} (h : ∀ i j, g (.int i) (.int j) = .int (op i j)) : ∀ xs ys : List Int, (((xs.map V.int).zip (ys.map V.int)).map fun v => g v.1 v.2) = (List.zipWith op xs ys).map V.int
  | [], _ => rfl
  | _ :: _, [] => rfl
  | x :: xs, y :: ys => by
    show g (.int x) (.int y) :: (((xs.map V.int).zip (ys.map V.int)).map fun v => g v.1 v.2) = .int (op x y) :: (List.zipWith op xs ys).map V.int
    rw [h, zip_to h xs ys]
theorem zip_ints : ∀ (xs ys : List Int), ∀ v ∈ (xs.map V.int).zip (ys.map V.int), Ints2 v.1 v.2
  | [], _, _, h => by cases h
  | _ :: _, [], _, h => by cases h
  | x :: xs, y :: ys, v, h => by
    rcases List.mem_cons.mp h with e | e
    · rw [e]
      exact ⟨x, y, rfl, rfl⟩
    · exact zip_ints xs ys v e
theorem zip_len {op : Int → Int → Int} (xs ys : List Int) : (List.zipWith op xs ys).length ≤ xs.length := by
  rw [List.length_zipWith]
  omega
theorem rep_flat (k : Nat) (v : V) : (List.replicate k [v]).flatten = List.replicate k v := by
  induction k with
  | zero => rfl
  | succ k ih =>
    rw [List.replicate_succ, List.flatten_cons, ih]
    rfl
theorem kp_of_tabbed {T : Addr} {H H2 : Hp} (h : Tabbed T H H2) : Kp [T] H H2 := fun x o nx e => by
  rw [h.2 x fun z => nx (by rw [z]; exact List.mem_singleton.mpr rfl)]
  exact e
theorem free_of_tabbed {T d : Addr} {H H2 : Hp} (h : Tabbed T H H2) (n : H2 d = none) : H d = none := by
  obtain ⟨⟨ps, h1, _⟩, h2⟩ := h
  by_cases z : d = T
  · rw [z, h1] at n
    cases n
  · rw [← h2 d z]
    exact n
theorem rep_read {K : PySem.W.Frag} {H : Hp} {Q : VK} {t : Addr} {k : Int} {n : Nat} (hk : k = (n : Int)) (h1 : 1 ≤ n) (h2 : n ≤ 1000) (nt : H t = none) (q : ∀ p H', Same H H' → H p = none → H' p = some (.tup ((List.replicate n (0 : Int)).map V.int)) → Q (.ref p) H') :
    rRepU K (.ref t) (.int k) (upd H t (.tup [.int 0])) Q := by
  refine ⟨t, k, [.int 0], rfl, rfl, SqT.of upd_same, by simp, by omega, by omega, by decide, fun z => ?_, fun z p np => ?_⟩
  · have z' : n = 1 := by omega
    subst z'
    exact q t _ (same_upd nt) nt upd_same
  · refine q p _ ((same_upd nt).trans (same_upd np)) ((same_upd nt).free np) ?_
    rw [upd_same, hk, Int.toNat_natCast, rep_flat, List.map_replicate]
theorem at_ints {xs : List Int} {i : Nat} {x : Int} (h : xs[i]? = some x) : atI (xs.map V.int) (0 + (i : Int)) = some (.int x) := by
  rw [Int.zero_add]
  exact atI_nat (by rw [List.getElem?_map, h]; rfl)
theorem zw_take {op : Int → Int → Int} {xs ys : List Int} {i : Nat} {x y : Int} (hx : xs[i]? = some x) (hy : ys[i]? = some y) : (List.zipWith op xs ys).take (i + 1) = (List.zipWith op xs ys).take i ++ [op x y] := by
  rw [List.take_add_one, List.getElem?_zipWith, hx, hy]
  rfl
theorem same_seqT {K : PySem.W.Frag} {H H' : Hp} {a : Addr} {xs : List V} (e : Same H H') (h : SqT K H a xs) : SqT K H' a xs := by
  rcases h with (h | ⟨o, h⟩) | h
  · exact .inl (.inl (e _ _ h))
  · exact .inl (.inr ⟨o, e _ _ h⟩)
  · exact .inr h
theorem Amt.take {ns : List Int} (h : Amt ns) (k : Nat) : Amt (ns.take k) := fun n hn => h n (List.mem_of_mem_take hn)
theorem Amt.drop {ns : List Int} (h : Amt ns) (k : Nat) : Amt (ns.drop k) := fun n hn => h n (List.mem_of_mem_drop hn)
theorem Amt.app {ns ms : List Int} (h : Amt ns) (h' : Amt ms) : Amt (ns ++ ms) := fun n hn => by
  rcases List.mem_append.mp hn with z | z
  · exact h n z
  · exact h' n z
theorem BoxAt.le {H : Hp} {b : Addr} {c c' : Int} (B : BoxAt H b c) (h : c ≤ c') : BoxAt H b c' := by
  obtain ⟨xs, h1, d, m, t, h2, h3, h4, h5, h6, h7⟩ := B
  exact ⟨xs, h1, d, m, t, h2, h3, h4, h5, h6, by omega⟩
theorem box_free {H H' : Hp} {b : Addr} {c : Int} (B : BoxAt H' b c) (k : Kp [b] H H') {x : Addr} (n : H' x = none) : H x = none := by
  cases e : H x with
  | none => rfl
  | some o =>
    by_cases z : x = b
    · obtain ⟨ys, h1, _⟩ := B
      rw [z, h1] at n
      cases n
    · rw [k _ _ (fun q => z (List.mem_singleton.mp q)) e] at n
      cases n
theorem box_ne {H : Hp} {b p : Addr} {c : Int} {xs : List V} (B : BoxAt H b c) (h : H p = some (.tup xs)) : p ∉ [b] := fun z => by
  obtain ⟨ys, h1, _⟩ := B
  rw [← List.mem_singleton.mp z, h] at h1
  cases h1
theorem box_new {H : Hp} {b p : Addr} {c : Int} (B : BoxAt H b c) (h : H p = none) : p ∉ [b] := fun z => by
  obtain ⟨ys, h1, _⟩ := B
  rw [← List.mem_singleton.mp z, h] at h1
  cases h1
end My

namespace My
open PySem PySem.Spec PyProof.Rows L2 GX GxR
/-- a draw below any number up to 2 ** 60 -/
def spTakeW : Sp := fun vs H Q _ => ∃ (b : Addr) (c many : Int), vs = [.ref b, .int many] ∧ BoxAt H b c ∧ 0 < many ∧ many ≤ 1152921504606846976 ∧ c ≤ 1000000000 ∧
  ∀ r H', 0 ≤ r → r < many → Kp [b] H H' → BoxAt H' b (c + 1) → Q (.int r) H'
theorem wideOk {i many : Int} (h0 : 0 < many) (h1 : many ≤ 1152921504606846976) : CDivW i many :=
  wide_div (b := 62) h0 (by have : (2 : Nat) ^ 62 = 4611686018427387904 := by decide
                            rw [this]; omega) (by decide) (by decide)
end My

namespace My
open PySem PySem.Spec PyProof.Rows L2 GX GxR
theorem cat_read {K : PySem.W.Frag} {H : Hp} {Q : VK} {a b : Addr} {xs ys : List V} (N : Addr → Prop) (ha : H a = some (.tup xs)) (hb : H b = some (.tup ys)) (na : N a) (nb : N b) (hn : ∀ p, H p = none → N p) (hl : xs.length + ys.length ≤ sizeLine)
    (q : ∀ p H', Same H H' → N p → H' p = some (.tup (xs ++ ys)) → Q (.ref p) H') : rCatA K (.ref a) (.ref b) H Q := by
  refine ⟨a, b, xs, ys, rfl, rfl, SqT.of ha, SqT.of hb, hl, fun e => ?_, fun e1 e2 => ?_, fun e1 e2 p np => q p _ (same_upd np) (hn p np) upd_same⟩
  · subst e
    exact q b H (Same.refl _) nb hb
  · subst e2
    exact q a H (Same.refl _) na (by rw [List.append_nil]; exact ha)
end My

namespace GX
open PySem PySem.Spec PyProof.Rows L2
theorem fold_min (n : Int) : ∀ ns : List Int, (ns.foldl min n = n ∨ ns.foldl min n ∈ ns) ∧ ns.foldl min n ≤ n ∧ ∀ y ∈ ns, ns.foldl min n ≤ y := by
  intro ns
  induction ns generalizing n with
  | nil => exact ⟨.inl rfl, Int.le_refl _, fun _ h => nomatch h⟩
  | cons m r ih =>
    obtain ⟨h1, h2, h3⟩ := ih (min n m)
    rw [List.foldl_cons]
    refine ⟨?_, by omega, fun y hy => ?_⟩
    · rcases h1 with e | e
      · rw [e]
        by_cases hm : n ≤ m
        · exact .inl (by omega)
        · exact .inr (by rw [show min n m = m by omega]; exact List.mem_cons_self)
      · exact .inr (List.mem_cons_of_mem _ e)
    · rcases List.mem_cons.mp hy with e | e
      · rw [e]
        omega
      · exact h3 y e
/-- min(xs, default=d), xs a list of whole numbers -/
def rMinD (K : PySem.W.Frag) : List V → List V → Hp → VK → Prop := fun vs zs H Q => ∃ (a : Addr) (ns : List Int) (d : V), vs = [.ref a] ∧ zs = [d] ∧ SqL K H a (ns.map V.int) ∧ (ns = [] → Q d H) ∧ ∀ m, m ∈ ns → (∀ y ∈ ns, m ≤ y) → Q (.int m) H
theorem cr_minD {X : Cx} (hc : X.calm = true) (hu : X.A.units + 1 < cLine) : CallRK X (.builtin "min") ["default"] (rMinD X.K) := by
  intro pins s σ H xs zs us ws Q I r1 r2 h
  obtain ⟨a, ns, d, rfl, rfl, hq, q0, q1⟩ := h
  obtain ⟨u, rfl, ru⟩ := vals1 r1
  obtain ⟨u2, rfl, ru2⟩ := vals1 r2
  obtain rfl : u = Value.ref a := ru
  obtain ⟨its, rv, pl, _⟩ := I.list hq
  have rd : ∀ (ns : List Int) (us : List Value), Vals (ns.map V.int) us → ReadsAll s.heap us (ns.map PyData.int) [] := by
    intro ns
    induction ns with
    | nil =>
      intro us h
      cases h
      exact .nil
    | cons n r ih =>
      intro us h
      cases h with
      | cons h1 h2 =>
        obtain ⟨t, rfl⟩ := h1
        exact .cons (as := []) (bs := []) (.int n t) (ih _ h2)
  refine PySem.W.min_list_default (xs := ns.map PyData.int) (as := []) (I.ok.hd hc) pl.isList (rd ns its rv) ⟨fun x hx y hy => ?_, fun x hx => ?_⟩ (by rw [PySem.W.ke_depthAll]; exact hu) (fun e h' tk kp => ?_) (fun y ys i v h' tk bs e hv hr kp => ?_)
  · obtain ⟨i, _, rfl⟩ := List.mem_map.mp hx
    obtain ⟨j, _, rfl⟩ := List.mem_map.mp hy
    rfl
  · obtain ⟨i, _, rfl⟩ := List.mem_map.mp hx
    exact fun z => nomatch z
  · have e2 : ns = [] := by
      cases ns with
      | nil => rfl
      | cons _ _ => cases e
    exact ⟨d, H, I.kept kp, ru2, q0 e2⟩
  · cases ns with
    | nil => cases e
    | cons n r =>
      rw [List.map_cons] at e
      injection e with e1 e2
      subst e1 e2
      rw [PySem.W.minD_ints] at hr
      obtain ⟨t, rfl⟩ : ∃ t, v = Value.int (r.foldl min n) t := by
        cases hr
        exact ⟨_, rfl⟩
      obtain ⟨h1, h2, h3⟩ := fold_min n r
      refine ⟨.int (r.foldl min n), H, I.kept kp, ⟨t, rfl⟩, q1 _ ?_ fun y hy => ?_⟩
      · rcases h1 with e | e
        · rw [e]
          exact List.mem_cons_self
        · exact List.mem_cons_of_mem _ e
      · rcases List.mem_cons.mp hy with e | e
        · rw [e]
          exact h2
        · exact h3 y e
theorem fold_max (n : Int) : ∀ ns : List Int, (ns.foldl max n = n ∨ ns.foldl max n ∈ ns) ∧ n ≤ ns.foldl max n ∧ ∀ y ∈ ns, y ≤ ns.foldl max n := by
  intro ns
  induction ns generalizing n with
  | nil => exact ⟨.inl rfl, Int.le_refl _, fun _ h => nomatch h⟩
  | cons m r ih =>
    obtain ⟨h1, h2, h3⟩ := ih (max n m)
    rw [List.foldl_cons]
    refine ⟨?_, by omega, fun y hy => ?_⟩
    · rcases h1 with e | e
      · rw [e]
        by_cases hm : m ≤ n
        · exact .inl (by omega)
        · exact .inr (by rw [show max n m = m by omega]; exact List.mem_cons_self)
      · exact .inr (List.mem_cons_of_mem _ e)
    · rcases List.mem_cons.mp hy with e | e
      · rw [e]
        omega
      · exact h3 y e
/-- max(t), t a tuple of whole numbers -/
def rMaxT (K : PySem.W.Frag) : List V → Hp → VK → Prop := fun vs H Q => ∃ (a : Addr) (ns : List Int), vs = [.ref a] ∧ SqT K H a (ns.map V.int) ∧ 0 < ns.length ∧ ∀ m, m ∈ ns → (∀ y ∈ ns, y ≤ m) → Q (.int m) H
theorem cr_maxT {X : Cx} (hc : X.calm = true) (hu : X.A.units + 1 < cLine) : CallR X (.builtin "max") (rMaxT X.K) := by
  intro pins s σ H xs us Q I r1 h
  obtain ⟨a, ns, rfl, hq, hn, q1⟩ := h
  obtain ⟨u, rfl, ru⟩ := vals1 r1
  obtain rfl : u = Value.ref a := ru
  obtain ⟨its, rv, pl, _⟩ := I.tuple hq
  have rd : ∀ (ns : List Int) (us : List Value), Vals (ns.map V.int) us → ReadsAll s.heap us (ns.map PyData.int) [] := by
    intro ns
    induction ns with
    | nil =>
      intro us h
      cases h
      exact .nil
    | cons n r ih =>
      intro us h
      cases h with
      | cons h1 h2 =>
        obtain ⟨t, rfl⟩ := h1
        exact .cons (as := []) (bs := []) (.int n t) (ih _ h2)
  cases ns with
  | nil => cases hn
  | cons n r =>
    refine PySem.W.max_tuple_data (x := .int n) (xs := r.map PyData.int) (as := []) (I.ok.hd hc) pl (rd (n :: r) its rv) ⟨fun x hx y hy => ?_, fun x hx => ?_⟩ ?_ (fun i v h' tk bs hv hr kp => ?_)
    · obtain ⟨i, _, rfl⟩ := List.mem_map.mp (show x ∈ (n :: r).map PyData.int from hx)
      obtain ⟨j, _, rfl⟩ := List.mem_map.mp (show y ∈ (n :: r).map PyData.int from hy)
      rfl
    · obtain ⟨i, _, rfl⟩ := List.mem_map.mp (show x ∈ (n :: r).map PyData.int from hx)
      exact fun z => nomatch z
    · show X.A.units + 1 + PyData.depthAll ((n :: r).map PyData.int) < cLine
      rw [PySem.W.ke_depthAll]
      exact hu
    · rw [PySem.W.maxD_ints] at hr
      obtain ⟨t, rfl⟩ : ∃ t, v = Value.int (r.foldl max n) t := by
        cases hr
        exact ⟨_, rfl⟩
      obtain ⟨h1, h2, h3⟩ := fold_max n r
      refine ⟨.int (r.foldl max n), H, I.kept kp, ⟨t, rfl⟩, q1 _ ?_ fun y hy => ?_⟩
      · rcases h1 with e | e
        · rw [e]
          exact List.mem_cons_self
        · exact List.mem_cons_of_mem _ e
      · rcases List.mem_cons.mp hy with e | e
        · rw [e]
          exact h2
        · exact h3 y e
end GX

namespace My
open PySem PySem.Spec PyProof.Rows L2 GX GxR
/-- text * n -/
theorem op_mul_str {X : Cx} : OpR X (binaryOp .Mult) (fun x y H Q => ∃ z n, x = .str z ∧ y = .int n ∧ MulOk z n ∧ Q (.str (Txt.mul z n)) H) := by
  intro pins s σ H x y v u Q I rx ry h
  obtain ⟨z, n, rfl, rfl, hz, q⟩ := h
  obtain ⟨t, rfl⟩ := rx
  obtain ⟨t', rfl⟩ := ry
  exact SB.mul hz (fun t' k => ⟨.str _, H, I.tok _, ⟨_, rfl⟩, q⟩)
/-- all tuples stay -/
def KTu (H H' : Hp) : Prop := ∀ x xs, H x = some (.tup xs) → H' x = some (.tup xs)
theorem KTu.refl (H : Hp) : KTu H H := fun _ _ h => h
theorem KTu.trans {H H1 H2 : Hp} (a : KTu H H1) (b : KTu H1 H2) : KTu H H2 := fun x xs h => b x xs (a x xs h)
theorem Same.kt {H H' : Hp} (a : Same H H') : KTu H H' := fun x xs h => a x _ h
theorem Kp.kt {b : Addr} {c : Int} {H H' : Hp} (k : Kp [b] H H') (B : BoxAt H b c) : KTu H H' := fun x xs h => k x _ (fun z => by
  obtain ⟨ys, h1, _⟩ := B
  rw [List.mem_singleton.mp z, h1] at h
  cases h) h
theorem kt_upd {H : Hp} {p : Addr} {o : HO} (h : ∀ xs, H p ≠ some (.tup xs)) : KTu H (upd H p o) := fun x xs e => by
  rw [upd_ne (fun z => h xs (by rw [← z]; exact e))]
  exact e
theorem kt_new {H : Hp} {p : Addr} {o : HO} (h : H p = none) : KTu H (upd H p o) := kt_upd fun xs e => by rw [h] at e; cases e
theorem kt_put {H : Hp} {p : Addr} {o u : HO} (h : H p = some u) (n : ∀ xs, u ≠ .tup xs) : KTu H (upd H p o) := kt_upd fun xs e => by
  rw [h] at e
  exact n xs (Option.some.inj e)
theorem nb_of {H : Hp} {b p : Addr} {c : Int} (B : BoxAt H b c) (n : H p = none) : p ≠ b := fun z => by
  obtain ⟨xs, h1, _⟩ := B
  rw [z, h1] at n
  cases n
theorem kp_new {H H' : Hp} {b p : Addr} {o : HO} (k : Kp [b] H H') (n : H' p = none) : Kp [b] H (upd H' p o) := fun x u nx e => same_upd n _ _ (k _ _ nx e)
theorem kp_free {H H' : Hp} {b p : Addr} (k : Kp [b] H H') (nb : p ≠ b) (n : H' p = none) : H p = none := by
  cases h : H p with
  | none => rfl
  | some o =>
    rw [k p o (fun z => nb (List.mem_singleton.mp z)) h] at n
    cases n
theorem ixAt {n m : Nat} (h : m < n) : ixN n (m : Int) = some m := by
  have h1 : (0 : Int) ≤ (m : Int) := by omega
  have h2 : (m : Int) < (n : Int) := by omega
  simp only [ixN, h1, h2, if_true, Int.toNat_natCast]
theorem amt_app {ns : List Int} {n : Int} (h : Amt ns) (h0 : 0 ≤ n) (h1 : n ≤ 1000000000000) : Amt (ns ++ [n]) := fun x hx => by
  rcases List.mem_append.mp hx with hx | hx
  · exact h x hx
  · rw [List.mem_singleton.mp hx]
    exact ⟨h0, h1⟩
theorem kp_put {H H' : Hp} {b p : Addr} {o : HO} (k : Kp [b] H H') (n : H p = none) : Kp [b] H (upd H' p o) := fun x u nx e => by
  rw [upd_ne (ne_of_none e n)]
  exact k _ _ nx e
theorem sIx_last (n d : Nat) : HT.sIx n d (some (-1)) = n - 1 := by
  show (if (-1 : Int) < 0 then ((-1 : Int) + (n : Int)).toNat else min (-1 : Int).toNat n) = n - 1
  rw [if_pos (by decide)]
  omega
/-- a gang -/
structure Gang where
  name : Str
  guild : Str
  rank : Int
  many : Int
  want : List Int
  how : Str
  len : Int
def Gang.flat (G : Gang) (w : Addr) : List V := [.str G.name, .str G.guild, .int G.rank, .int G.many, .ref w, .str G.how, .int G.len]
def GangAt (H : Hp) (g : Addr) (G : Gang) : Prop := ∃ w, H g = some (.tup (G.flat w)) ∧ H w = some (.tup (G.want.map V.int))
def RowAt (H : Hp) (r : Addr) (R : Gang × Int) : Prop := ∃ g, H r = some (.tup [.ref g, .int R.2]) ∧ GangAt H g R.1
theorem GangAt.kt {H H' : Hp} {g : Addr} {G : Gang} (k : KTu H H') (h : GangAt H g G) : GangAt H' g G := by
  obtain ⟨w, h1, h2⟩ := h
  exact ⟨w, k _ _ h1, k _ _ h2⟩
theorem RowAt.kt {H H' : Hp} {r : Addr} {R : Gang × Int} (k : KTu H H') (h : RowAt H r R) : RowAt H' r R := by
  obtain ⟨g, h1, h2⟩ := h
  exact ⟨g, k _ _ h1, h2.kt k⟩
def hows : List Str := ["any", "apart", "near", "wide"]
structure GangOk (gs : List Str) (wr : Nat) (G : Gang) : Prop where
  guild : G.guild ∈ gs
  wlen : G.want.length = wr
  amt : Amt G.want
  some : ∃ n ∈ G.want, n ≠ 0
  m1 : 1 ≤ G.many
  m60 : G.many ≤ 60
  r0 : 0 ≤ G.rank
  r9 : G.rank ≤ 9
  l1 : 1 ≤ G.len
  l6 : G.len ≤ 1000000
  how : G.how ∈ hows
def spGang : Sp := fun vs H Q _ => ∃ (b gl : Addr) (c : Int) (name : Str) (gs : List Str) (wr : Nat) (wide : Int), vs = [.ref b, .str name, .ref gl, .int (wr : Int), .int wide] ∧ BoxAt H b c ∧ c ≤ 10000000 ∧ H gl = some (.lst (gs.map V.str)) ∧ 1 ≤ gs.length ∧ gs.length ≤ 12 ∧ 1 ≤ wr ∧ wr ≤ 8 ∧ 1 ≤ wide ∧ wide ≤ 1000000000000 ∧
  ∀ g G H', GangOk gs wr G → G.name = name → Kp [b] H H' → BoxAt H' b (c + 20) → H g = none → GangAt H' g G → Q (.ref g) H'
def spDue : Sp := fun vs H Q _ => ∃ (b : Addr) (c : Int) (wr : Nat) (wide : Int), vs = [.ref b, .int (wr : Int), .int wide] ∧ BoxAt H b c ∧ c ≤ 10000000 ∧ 1 ≤ wr ∧ wr ≤ 8 ∧ 1 ≤ wide ∧ wide ≤ 1000000000000 ∧
  ∀ p ns H', Amt ns → ns.length = wr → Kp [b] H H' → BoxAt H' b (c + 20) → H p = none → H' p = some (.tup (ns.map V.int)) → Q (.ref p) H'
/-- lists of boxes' letters and of texts are unlike -/
theorem box_strs {H : Hp} {b p : Addr} {c : Int} {zs : List Str} (B : BoxAt H b c) (h : H p = some (.lst (zs.map V.str))) : p ≠ b := fun z => by
  obtain ⟨xs, h1, d, m, t, rfl, _⟩ := B
  rw [z, h1] at h
  cases zs with
  | nil => cases h
  | cons z1 zs => cases h
theorem box_refs {H : Hp} {b p : Addr} {c : Int} {as : List Addr} (B : BoxAt H b c) (h : H p = some (.lst (as.map V.ref))) : p ≠ b := fun z => by
  obtain ⟨xs, h1, d, m, t, rfl, _⟩ := B
  rw [z, h1] at h
  cases as with
  | nil => cases h
  | cons z1 zs => cases h
theorem atL {xs : List V} {v : V} {r : Int} (h0 : 0 ≤ r) (h : xs[r.toNat]? = some v) : atI xs r = some v := by
  have := atI_nat (xs := xs) (j := r.toNat) h
  rwa [Int.toNat_of_nonneg h0] at this
end My

namespace My
open PySem PySem.Spec PyProof.Rows L2 GX GxR
def topS (i : Nat) : Stmt := PySem.Challenge.pw_clusterhall_k28_whom_one_may_take_from.main.body.getD i (.Pass ⟨0, 0, 0, 0⟩)
abbrev sBox : Stmt := topS 25
abbrev sTake : Stmt := topS 26
theorem scBox : FnScope ["_law_script", "_law_k", "_law_cell", "_law_digits"] ["_law_script", "_law_k"] (defScope sBox) := ⟨rfl, rfl, rfl, by decide +kernel, rfl, by decide +kernel, by decide +kernel⟩
theorem scTake : FnScope ["_law_box_here", "_law_many", "_law_found", "_law_once"] ["_law_box_here", "_law_many"] (defScope sTake) := ⟨rfl, rfl, rfl, by decide +kernel, rfl, by decide +kernel, by decide +kernel⟩
section
variable {P : Program} {w : World} {K : PySem.W.Frag} {mg : Str → Option Value} {base : Heap}
theorem ok_box {f : Addr} {fd : FuncData} {k : Nat} (F : Fun K "_law_box" "_law_box" sBox f fd) (T : Txt mg) : FnOk P w K mg base CX0 (k + 1) f fd ["_law_script", "_law_k"] (spBox K) := by
  refine F.ok scBox (fun vs H Q E h => ?_) (fun cdv A outer s H vs Q E hr h => ?_)
  · obtain ⟨a, ns, k, rfl, _⟩ := h
    rfl
  · obtain ⟨a, ns, k, rfl, hS, hk, q⟩ := h
    refine ⟨_, pss_cons (ps_set (i := 2) scBox.nd rfl (.inl rfl) pe_int)
      (pss_cons (ps_if (pt_cmpR op_lt (pv 1) (pe_callB call_len_seq (by rfl) T.len PySem.boot_len (pa_cons (pv 0) pa_nil)) (nomark _)) (pss_one (ps_set (i := 2) scBox.nd rfl (.inl rfl) (pe_ix ix_list (pv 0) (pv 1) (fun _ _ => rfl)))) pss_nil)
      (pss_cons (ps_set (i := 3) scBox.nd rfl (.inl rfl) pe_int)
      (pss_cons (ps_if (pt_cmpR op_ge (pe_callB call_abs (by rfl) T.abs (by decide +kernel) (pa_cons (pv 2) pa_nil)) (pe_op op_pow pe_int pe_int) (nomark _)) (pss_one (ps_set (i := 3) scBox.nd rfl (.inl rfl) (pe_callB call_abs (by rfl) T.abs (by decide +kernel) (pa_cons (pv 2) pa_nil)))) pss_nil)
      (pss_one (ps_ret (pe_lst (pa_cons (pv 3) (pa_cons (pe_op op_mod (pe_op op_mul (pe_op op_add (pe_op op_add (pe_op op_mod (pv 2) pe_int) (pe_op op_mul pe_int (pv 1))) pe_int) pe_int) pe_int) (pa_cons pe_int pa_nil))))))))), ?_⟩
    have last : ∀ (cell dg : Int), 0 ≤ dg → ∀ y, y = [some (V.ref a), some (V.int (k : Int)), some (V.int cell), some (V.int dg)] →
        (tRet (tLst (tCons (tVar 3) (tCons (tOp (rI (fun _ j => 0 < j) fun i j => .int (i % j)) (tOp (rI CMul fun i j => .int (i * j)) (tOp (rI0 fun i j => .int (i + j)) (tOp (rI0 fun i j => .int (i + j)) (tOp (rI (fun _ j => 0 < j) fun i j => .int (i % j)) (tVar 2) (tC (.int 2147483647))) (tOp (rI CMul fun i j => .int (i * j)) (tC (.int 7919)) (tVar 1))) (tC (.int 11))) (tC (.int 48271))) (tC (.int 2147483629))) (tCons (tC (.int 0)) tNil)))) : TS)
          { nx := fun _ H' => Q .non H', rt := Q } y H := fun cell dg h0 y hy => by
      subst hy
      have b1 : 0 ≤ cell % 2147483647 := Int.emod_nonneg _ (by decide)
      have b2 : cell % 2147483647 < 2147483647 := Int.emod_lt_of_pos _ (by decide)
      refine ⟨_, rfl, _, rfl, cell, 2147483647, rfl, rfl, (by show (0 : Int) < 2147483647; decide), _, rfl, 7919, (k : Int), rfl, rfl, .inl ⟨by decide, by decide⟩, _, _, rfl, rfl, _, _, rfl, rfl, _, 48271, rfl, rfl, .inr ⟨by decide, by decide⟩, _, 2147483629, rfl, rfl, (by show (0 : Int) < 2147483629; decide), by show 3 ≤ sizeLine; decide, fun p hp => q p _ hp ⟨_, _, _, rfl, h0, Int.emod_nonneg _ (by decide), Int.emod_lt_of_pos _ (by decide), Int.le_refl _, Int.le_refl _⟩⟩
    have next : ∀ cell : Int, ∃ dg : Int, 0 ≤ dg := fun _ => ⟨0, Int.le_refl _⟩
    refine ⟨_, rfl, _, rfl, a, _, rfl, .inl hS, _, _, rfl, rfl, _, rfl, ite2 (fun e => ?_) (fun e => ?_)⟩
    · have e1 := of_decide_eq_true e
      rw [List.length_map] at e1
      have hk' : k < ns.length := by omega
      refine ⟨_, rfl, _, rfl, a, _, _, .int ns[k], rfl, rfl, hS, atI_nat (by rw [List.getElem?_map, List.getElem?_eq_getElem hk']; rfl), ?_⟩
      refine ⟨_, rfl, _, rfl, 10, 18, rfl, rfl, ⟨by decide, by decide, by decide⟩, _, _, rfl, rfl, _, rfl, ite2 (fun e => ⟨_, rfl, _, rfl, last _ _ ?_ _ rfl⟩) (fun e => last _ _ (Int.le_refl _) _ rfl)⟩
      split <;> omega
    · refine ⟨_, rfl, _, rfl, 10, 18, rfl, rfl, ⟨by decide, by decide, by decide⟩, _, _, rfl, rfl, _, rfl, ite2 (fun e => ⟨_, rfl, _, rfl, last _ _ ?_ _ rfl⟩) (fun e => last _ _ (Int.le_refl _) _ rfl)⟩
      split <;> omega
theorem ok_take {f : Addr} {fd : FuncData} {k : Nat} (F : Fun K "_law_take" "_law_take" sTake f fd) : FnOk P w K mg base CX0 (k + 1) f fd ["_law_box_here", "_law_many"] spTakeW := by
  refine F.ok scTake (fun vs H Q E h => ?_) (fun cdv A outer s H vs Q E hr h => ?_)
  · obtain ⟨b, c, many, rfl, _⟩ := h
    rfl
  · obtain ⟨b, c, many, rfl, ⟨xs, hb, d, m, t, rfl, hd, hm, hm2, ht, htc⟩, hmany, hmany2, hc, q⟩ := h
    refine ⟨_, pss_cons (ps_if (pt_cmpR op_gt (pe_ix ix_list (pv 0) pe_int (fun _ _ => rfl)) pe_int (nomark _))
        (pss_cons (ps_set (i := 2) scTake.nd rfl (.inl rfl) (pe_op op_mod (pe_ix ix_list (pv 0) pe_int (fun _ _ => rfl)) (pv 1)))
        (pss_cons (ps_asg (pe_op op_fdivW (pe_ix ix_list (pv 0) pe_int (fun _ _ => rfl)) (pv 1)) (pg_sub (pv 0) pe_int set_list))
        (pss_one (ps_ret (pv 2))))) pss_nil)
      (pss_cons (ps_asg (pe_op op_add (pe_ix ix_list (pv 0) pe_int (fun _ _ => rfl)) pe_int) (pg_sub (pv 0) pe_int set_list))
      (pss_cons (ps_set (i := 3) scTake.nd rfl (.inl rfl) (pe_op op_mod (pe_op op_mul (pe_op op_add (pe_ix ix_list (pv 0) pe_int (fun _ _ => rfl)) (pe_op op_mul pe_int (pe_ix ix_list (pv 0) pe_int (fun _ _ => rfl)))) (pe_op op_add pe_int (pe_ix ix_list (pv 0) pe_int (fun _ _ => rfl)))) pe_int))
      (pss_cons (ps_asg (pe_op op_mod (pe_op op_add (pe_op op_mul (pv 3) (pe_op op_add (pe_op op_mod (pv 3) pe_int) pe_int)) (pe_ix ix_list (pv 0) pe_int (fun _ _ => rfl))) pe_int) (pg_sub (pv 0) pe_int set_list))
      (pss_one (ps_ret (pe_op op_mod (pe_op op_fdiv (pe_op op_mod (pe_op op_mul (pe_ix ix_list (pv 0) pe_int (fun _ _ => rfl)) (pe_op op_add (pe_op op_mod (pe_ix ix_list (pv 0) pe_int (fun _ _ => rfl)) pe_int) pe_int)) pe_int) pe_int) (pv 1))))))), ?_⟩
    refine ⟨.ref b, rfl, b, _, 0, .int d, rfl, rfl, SqL.of hb, rfl, _, 0, rfl, rfl, _, rfl, ite2 (fun e => ?_) (fun e => ?_)⟩
    · have e1 : 0 < d := of_decide_eq_true e
      refine ⟨.ref b, rfl, b, _, 0, .int d, rfl, rfl, SqL.of hb, rfl, .int many, rfl, d, many, rfl, rfl, hmany, ?_⟩
      refine ⟨.ref b, rfl, b, _, 0, .int d, rfl, rfl, SqL.of hb, rfl, .int many, rfl, d, many, rfl, rfl, wideOk hmany hmany2, .ref b, rfl, b, _, 0, 0, rfl, rfl, hb, rfl, _, rfl, ?_⟩
      refine q _ _ (Int.emod_nonneg _ (by omega)) (Int.emod_lt_of_pos _ hmany) (kp_upd (List.mem_singleton.mpr rfl)) ⟨_, upd_same, d / many, m, t, rfl, Int.ediv_nonneg hd (by omega), hm, hm2, ht, by omega⟩
    · have u1 : upd H b (.lst [.int d, .int m, .int (t + 1)]) b = some (.lst [.int d, .int m, .int (t + 1)]) := upd_same
      refine ⟨.ref b, rfl, b, _, 2, .int t, rfl, rfl, SqL.of hb, rfl, t, 1, rfl, rfl, .ref b, rfl, b, _, 2, 2, rfl, rfl, hb, rfl, ?_⟩
      refine ⟨.ref b, rfl, b, _, 1, .int m, rfl, rfl, SqL.of u1, rfl, .ref b, rfl, b, _, 2, .int (t + 1), rfl, rfl, SqL.of u1, rfl, 39373, t + 1, rfl, rfl, .inl ⟨by decide, by decide⟩, m, _, rfl, rfl,
        .ref b, rfl, b, _, 2, .int (t + 1), rfl, rfl, SqL.of u1, rfl, 48271, t + 1, rfl, rfl, _, _, rfl, rfl, .inr ⟨by omega, by omega⟩, _, 2147483647, rfl, rfl, (by show (0 : Int) < 2147483647; decide), ?_⟩
      obtain ⟨once, hon⟩ : ∃ once : Int, (m + 39373 * (t + 1)) * (48271 + (t + 1)) % 2147483647 = once := ⟨_, rfl⟩
      have o1 : 0 ≤ once % 40009 := Int.emod_nonneg _ (by decide)
      have o2 : once % 40009 < 40009 := Int.emod_lt_of_pos _ (by decide)
      obtain ⟨m3, hm3⟩ : ∃ m3 : Int, (once * (once % 40009 + 7) + (t + 1)) % 2147483629 = m3 := ⟨_, rfl⟩
      have m1 : 0 ≤ m3 := by rw [← hm3]; exact Int.emod_nonneg _ (by decide)
      have m2 : m3 < 2147483629 := by rw [← hm3]; exact Int.emod_lt_of_pos _ (by decide)
      have hon' : V.int ((m + 39373 * (t + 1)) * (48271 + (t + 1)) % 2147483647) = .int once := congrArg V.int hon
      have hm3' : V.int ((once * (once % 40009 + 7) + (t + 1)) % 2147483629) = .int m3 := congrArg V.int hm3
      have u2 : upd (upd H b (.lst [.int d, .int m, .int (t + 1)])) b (.lst [.int d, .int ((once * (once % 40009 + 7) + (t + 1)) % 2147483629), .int (t + 1)]) b = some (.lst [.int d, .int m3, .int (t + 1)]) := by rw [hm3', upd_same]
      refine ⟨_, rfl, _, rfl, once, 40009, hon', rfl, (by show (0 : Int) < 40009; decide), _, 7, rfl, rfl, once, _, hon', rfl, .inr ⟨by omega, by omega⟩, .ref b, rfl, b, _, 2, .int (t + 1), rfl, rfl, SqL.of u1, rfl, _, _, rfl, rfl, _, 2147483629, rfl, rfl, (by show (0 : Int) < 2147483629; decide),
        .ref b, rfl, b, _, 1, 1, rfl, rfl, u1, rfl, ?_⟩
      refine ⟨.ref b, rfl, b, _, 1, .int m3, rfl, rfl, SqL.of u2, rfl, .ref b, rfl, b, _, 1, .int m3, rfl, rfl, SqL.of u2, rfl, m3, 1009, rfl, rfl, (by show (0 : Int) < 1009; decide), _, 3, rfl, rfl, m3, _, rfl, rfl, .inl ⟨by omega, by omega⟩, _, 998244353, rfl, rfl, (by show (0 : Int) < 998244353; decide), _, 7, rfl, rfl, ⟨by decide, by decide⟩, .int many, rfl, _, many, rfl, rfl, hmany, ?_⟩
      exact q _ _ (Int.emod_nonneg _ (by omega)) (Int.emod_lt_of_pos _ hmany) ((kp_upd (List.mem_singleton.mpr rfl)).trans (kp_upd (List.mem_singleton.mpr rfl))) ⟨_, u2, d, m3, t + 1, rfl, hd, m1, m2, by omega, by omega⟩
end
end My

namespace My
open PySem PySem.Spec PyProof.Rows L2 GX GxR
abbrev s_scGang : Stmt := topS 27
abbrev n_scGang : List Str := ["_law_box_here", "_law_name", "_law_guilds", "_law_wares", "_law_wide", "_law_want", "_law_many", "_law_rank", "_law_how", "_law_k"]
theorem scGang : FnScope n_scGang ["_law_box_here", "_law_name", "_law_guilds", "_law_wares", "_law_wide"] (defScope s_scGang) := ⟨rfl, rfl, rfl, by decide +kernel, rfl, by decide +kernel, by decide +kernel⟩
abbrev s_scDue : Stmt := topS 28
abbrev n_scDue : List Str := ["_law_box_here", "_law_wares", "_law_wide", "_law_much", "_law_due_here", "_law_k"]
theorem scDue : FnScope n_scDue ["_law_box_here", "_law_wares", "_law_wide"] (defScope s_scDue) := ⟨rfl, rfl, rfl, by decide +kernel, rfl, by decide +kernel, by decide +kernel⟩
section
variable {P : Program} {w : World} {K : PySem.W.Frag} {mg : Str → Option Value} {base : Heap}
theorem ok_gang {f fT : Addr} {fd fdT : FuncData} {k : Nat} (F : Fun K "_law_gang" "_law_gang" s_scGang f fd) (X : Txt mg)
    (GT : FnOk P w K mg base CX0 k fT fdT ["_law_box_here", "_law_many"] spTakeW) (mT : mg "_law_take" = some (.ref fT)) (kT : PySem.W.keepIn K (.ref fT) = true) (bT : Binds K fdT ["_law_box_here", "_law_many"] []) :
    FnOk P w K mg base CX0 (k + 1) f fd ["_law_box_here", "_law_name", "_law_guilds", "_law_wares", "_law_wide"] spGang := by
  refine F.ok scGang (fun vs H Q E h => ?_) (fun cdv A outer s H vs Q E hr h => ?_)
  · obtain ⟨b, gl, c, name, gs, wr, wide, rfl, _⟩ := h
    rfl
  · obtain ⟨b, gl, c, name, gs, wr, wide, rfl, hB, hc, hG, g1, g12, w1, w8, i1, i12, q⟩ := h
    refine ⟨_, (pss_cons (ps_set (i := 5) scGang.nd rfl (.inl rfl) (pe_callTy call_tuple_of (by rfl) X.tup bt_tuple (pa_cons (pe_lc (own := [("_law_k", 9)]) (g := (gName 9)) (tt := tYes) rfl scGang.nd (pi_range1 (by rfl) X.range (pa_cons (pv 3) pa_nil)) (blkOk_by (own := [("_law_k", 9)]) (N := n_scGang) (sc := defScope s_scGang) (by decide +kernel)) (fun _ _ _ _ _ => (pg_name (i := 9) scGang.nd rfl (.inl rfl))) (fun _ _ _ _ _ => pts_nil) (fun _ _ _ _ _ => (pe_call GT hr (by rfl) mT kT bT .nil pass0 (pa_cons (pv 0) (pa_cons (pe_op op_add (pv 4) pe_int) pa_nil))))) pa_nil)))
      (C8.pss_cut (ps_if (pt_cmpR op_eq (pe_callB (cr_maxT rfl (hu_of hr)) (by rfl) X.max (by decide +kernel) (pa_cons (pv 5) pa_nil)) pe_int (nomark _))
        (pss_one (ps_set (i := 5) scGang.nd rfl (.inl rfl) (pe_op op_catA (pe_slice sl_tup (pv 5) po_none (po_some (pe_un un_neg pe_int))) (pe_tup (pa_cons (pe_op op_add pe_int (pe_call GT hr (by rfl) mT kT bT .nil pass0 (pa_cons (pv 0) (pa_cons (pv 4) pa_nil)))) pa_nil)))))
        pss_nil)
      (C8.pss_cut (ps_set (i := 6) scGang.nd rfl (.inl rfl) (pe_ix ix_list (pe_lst (pa_cons pe_int (pa_cons (pe_op op_add pe_int (pe_call GT hr (by rfl) mT kT bT .nil pass0 (pa_cons (pv 0) (pa_cons pe_int pa_nil)))) (pa_cons (pe_op op_add pe_int (pe_call GT hr (by rfl) mT kT bT .nil pass0 (pa_cons (pv 0) (pa_cons pe_int pa_nil)))) pa_nil)))) (pe_call GT hr (by rfl) mT kT bT .nil pass0 (pa_cons (pv 0) (pa_cons pe_int pa_nil))) (fun _ _ => rfl)))
      (C8.pss_cut (ps_set (i := 7) scGang.nd rfl (.inl rfl) (pe_ix ix_list (pe_lst (pa_cons (pe_call GT hr (by rfl) mT kT bT .nil pass0 (pa_cons (pv 0) (pa_cons pe_int pa_nil))) (pa_cons (pe_call GT hr (by rfl) mT kT bT .nil pass0 (pa_cons (pv 0) (pa_cons pe_int pa_nil))) pa_nil))) (pe_call GT hr (by rfl) mT kT bT .nil pass0 (pa_cons (pv 0) (pa_cons pe_int pa_nil))) (fun _ _ => rfl)))
      (C8.pss_cut (ps_set (i := 8) scGang.nd rfl (.inl rfl) (pe_ix ix_list (pe_lst (pa_cons pe_str (pa_cons pe_str (pa_cons pe_str (pa_cons pe_str pa_nil))))) (pe_call GT hr (by rfl) mT kT bT .nil pass0 (pa_cons (pv 0) (pa_cons pe_int pa_nil))) (fun _ _ => rfl)))
      (pss_one (ps_ret (pe_tup (pa_cons (pv 1) (pa_cons (pe_ix ix_list (pv 2) (pe_call GT hr (by rfl) mT kT bT .nil pass0 (pa_cons (pv 0) (pa_cons (pe_callB call_len_seq (by rfl) X.len PySem.boot_len (pa_cons (pv 2) pa_nil)) pa_nil))) (fun _ _ => rfl)) (pa_cons (pv 7) (pa_cons (pv 6) (pa_cons (pv 5) (pa_cons (pv 8) (pa_cons (pe_op op_add pe_int (pe_call GT hr (by rfl) mT kT bT .nil pass0 (pa_cons (pv 0) (pa_cons (pe_op op_pow pe_int pe_int) pa_nil)))) pa_nil))))))))))))))), ?_⟩
    have glb : gl ∉ [b] := fun z => box_strs hB hG (List.mem_singleton.mp z)
    refine ⟨_, rfl, (wr : Int), rfl, by omega, by omega, fun D nD => ?_⟩
    have nDb : D ≠ b := nb_of hB nD
    have nDb' : D ∉ [b] := fun z => nDb (List.mem_singleton.mp z)
    rw [Int.toNat_natCast]
    refine lc_range (lo := 0) (n := wr) (fun i H' => Kp [b] H H' ∧ BoxAt H' b (c + (i : Int)) ∧ ∃ ns : List Int, H' D = some (.lst (ns.map V.int)) ∧ ns.length = i ∧ Amt ns)
      ⟨Same.kp _ (same_upd nD), (hB.same (same_upd nD)).le (by omega), [], upd_same, rfl, fun _ h => (nomatch h)⟩ (fun i H3 hi p => ?_) (fun H3 p => ?_)
    · obtain ⟨p1, p2, ns, p3, p4, p5⟩ := p
      refine ⟨rfl, ?_⟩
      refine ⟨_, rfl, _, rfl, wide, 1, rfl, rfl, b, _, wide + 1, rfl, p2, by omega, by omega, by omega, fun m H4 m0 m1 k4 B4 => ⟨_, k4 _ _ nDb' p3, ?_, kp_put (p1.trans k4) nD, ?_, ns ++ [m], ?_, ?_, amt_app p5 m0 (by omega)⟩⟩
      · rw [List.length_map, p4]
        exact small1000 (by omega)
      · obtain ⟨xs, h1, h2⟩ := B4.le (c' := c + ((i + 1 : Nat) : Int)) (by omega)
        exact ⟨xs, by rw [upd_ne nDb.symm]; exact h1, h2⟩
      · rw [upd_same, List.map_append]
        rfl
      · rw [List.length_append, p4]
        rfl
    · obtain ⟨p1, p2, ns, p3, p4, p5⟩ := p
      refine ⟨D, _, rfl, .inl ⟨SqL.of p3, fun pw npw => ?_⟩⟩
      have k5 : Kp [b] H (upd H3 pw (.tup (ns.map V.int))) := kp_new p1 npw
      have B5 := p2.same (same_upd (o := .tup (ns.map V.int)) npw)
      have e5 : upd H3 pw (.tup (ns.map V.int)) pw = some (.tup (ns.map V.int)) := upd_same
      generalize upd H3 pw (.tup (ns.map V.int)) = H5 at k5 B5 e5 ⊢
      -- the want isn't all noughts
      refine ⟨fun σ H' => ∃ (p : Addr) (ms : List Int), σ = [some (.ref b), some (.str name), some (.ref gl), some (.int (wr : Int)), some (.int wide), some (.ref p), none, none, none, none] ∧ Kp [b] H H' ∧ BoxAt H' b (c + 9) ∧ H' p = some (.tup (ms.map V.int)) ∧ ms.length = wr ∧ Amt ms ∧ ∃ n ∈ ms, n ≠ 0, ?_, fun σ H6 hm => ?_⟩
      · refine ⟨_, rfl, pw, ns, rfl, SqT.of e5, by omega, fun m hm hall => ⟨rfl, _, rfl, ite2 (fun e => ?_) (fun e => ?_)⟩⟩
        · refine ⟨_, rfl, 1, rfl, -1, rfl, pw, _, rfl, SqT.of e5, ?_, fun s1 ns1 => ?_⟩
          · rw [sIx_last, List.length_map]
            omega
          have c1 : cutV (ns.map V.int) none (some (-1)) = (ns.take (wr - 1)).map V.int := by
            unfold cutV
            rw [HT.sIx_none, List.drop_zero, List.map_take, sIx_last, List.length_map, p4, Nat.sub_zero]
          rw [c1]
          have B6 := B5.same (same_upd (o := .tup ((ns.take (wr - 1)).map V.int)) ns1)
          refine ⟨_, rfl, _, rfl, b, _, wide, rfl, B6, by omega, by omega, by omega, fun r H7 r0 r1 k7 B7 => ⟨1, r, rfl, rfl, by show 1 ≤ sizeLine; decide, fun s2 ns2 => ?_⟩⟩
          have ns1b := box_new B5 ns1
          have e7 : H7 s1 = some (.tup ((ns.take (wr - 1)).map V.int)) := k7 _ _ ns1b upd_same
          have kk : Kp [b] H H7 := (kp_new k5 ns1).trans k7
          refine cat_read (fun x => True) (same_upd ns2 _ _ e7) upd_same trivial trivial (fun x nx => trivial) ?_ fun s3 H8 s4 n3 e8 => ?_
          · rw [List.length_map, List.length_take]
            show min (wr - 1) ns.length + 1 ≤ sizeLine
            exact Nat.le_of_lt (small1000 (by omega))
          have sS := (same_upd (o := .tup [.int (1 + r)]) ns2).trans s4
          refine ⟨s3, ns.take (wr - 1) ++ [1 + r], rfl, fun x o nx e => sS _ _ (kk _ _ nx e), (B7.same sS).le (by omega), ?_, ?_, amt_app (p5.take _) (by omega) (by omega), 1 + r, List.mem_append_right _ List.mem_cons_self, by omega⟩
          · rw [e8, List.map_append]
            rfl
          · rw [List.length_append, List.length_take]
            show min (wr - 1) ns.length + 1 = wr
            omega
        · refine ⟨pw, ns, rfl, k5, B5.le (by omega), e5, p4, p5, m, hm, fun z => ?_⟩
          exact absurd e (by rw [z]; decide)
      obtain ⟨p, ms, rfl, k6, B6, e6, l6, a6, s6⟩ := hm
      clear p1 p2 p3 p4 p5 k5 B5 e5 npw nD nDb nDb'
      -- many
      refine ⟨fun σ H' => ∃ (mn : Int), σ = [some (.ref b), some (.str name), some (.ref gl), some (.int (wr : Int)), some (.int wide), some (.ref p), some (.int mn), none, none, none] ∧ Kp [b] H H' ∧ KTu H6 H' ∧ BoxAt H' b (c + 12) ∧ 1 ≤ mn ∧ mn ≤ 60, ?_, fun σ H9 hm => ?_⟩
      · refine ⟨_, rfl, b, _, 4, rfl, B6, by decide, by decide, by omega, fun r1 H1 a1 b1 k1 B1 => ⟨1, r1, rfl, rfl, ?_⟩⟩
        refine ⟨_, rfl, b, _, 60, rfl, B1, by decide, by decide, by omega, fun r2 H2 a2 b2 k2 B2 => ⟨1, r2, rfl, rfl, by show 3 ≤ sizeLine; decide, fun l nl => ?_⟩⟩
        refine ⟨_, rfl, b, _, 3, rfl, B2.same (same_upd nl), by decide, by decide, by omega, fun r3 H4 a3 b3 k4 B4 => ?_⟩
        have el := k4 _ _ (box_new B2 nl) upd_same
        obtain ⟨mn, hmn, m1, m2⟩ : ∃ mn, atI [V.int 1, .int (1 + r1), .int (1 + r2)] r3 = some (.int mn) ∧ 1 ≤ mn ∧ mn ≤ 60 := by
          have h3 : r3 = 0 ∨ r3 = 1 ∨ r3 = 2 := by omega
          rcases h3 with z | z | z
          · rw [z]; exact ⟨_, rfl, by omega, by omega⟩
          · rw [z]; exact ⟨_, rfl, by omega, by omega⟩
          · rw [z]; exact ⟨_, rfl, by omega, by omega⟩
        refine ⟨l, _, r3, .int mn, rfl, rfl, SqL.of el, hmn, mn, rfl, (kp_new ((k6.trans k1).trans k2) nl).trans k4, ((k1.kt B6).trans (k2.kt B1)).trans ((kt_new nl).trans (k4.kt (B2.same (same_upd nl)))), B4.le (by omega), m1, m2⟩
      obtain ⟨mn, rfl, k9, t9, B9, m1, m60⟩ := hm
      -- rank
      refine ⟨fun σ H' => ∃ (rk : Int), σ = [some (.ref b), some (.str name), some (.ref gl), some (.int (wr : Int)), some (.int wide), some (.ref p), some (.int mn), some (.int rk), none, none] ∧ Kp [b] H H' ∧ KTu H6 H' ∧ BoxAt H' b (c + 15) ∧ 0 ≤ rk ∧ rk ≤ 9, ?_, fun σ H10 hm => ?_⟩
      · refine ⟨_, rfl, b, _, 3, rfl, B9, by decide, by decide, by omega, fun r1 H1 a1 b1 k1 B1 => ?_⟩
        refine ⟨_, rfl, b, _, 10, rfl, B1, by decide, by decide, by omega, fun r2 H2 a2 b2 k2 B2 => ⟨by show 2 ≤ sizeLine; decide, fun l nl => ?_⟩⟩
        refine ⟨_, rfl, b, _, 2, rfl, B2.same (same_upd nl), by decide, by decide, by omega, fun r3 H4 a3 b3 k4 B4 => ?_⟩
        have el := k4 _ _ (box_new B2 nl) upd_same
        obtain ⟨rk, hrk, h1, h2⟩ : ∃ rk, atI [V.int r1, .int r2] r3 = some (.int rk) ∧ 0 ≤ rk ∧ rk ≤ 9 := by
          have h3 : r3 = 0 ∨ r3 = 1 := by omega
          rcases h3 with z | z
          · rw [z]; exact ⟨_, rfl, by omega, by omega⟩
          · rw [z]; exact ⟨_, rfl, by omega, by omega⟩
        refine ⟨l, _, r3, .int rk, rfl, rfl, SqL.of el, hrk, rk, rfl, (kp_new ((k9.trans k1).trans k2) nl).trans k4, t9.trans (((k1.kt B9).trans (k2.kt B1)).trans ((kt_new nl).trans (k4.kt (B2.same (same_upd nl))))), B4.le (by omega), h1, h2⟩
      obtain ⟨rk, rfl, k10, t10, B10, r0, r9⟩ := hm
      -- how
      refine ⟨fun σ H' => ∃ (hw : Str), σ = [some (.ref b), some (.str name), some (.ref gl), some (.int (wr : Int)), some (.int wide), some (.ref p), some (.int mn), some (.int rk), some (.str hw), none] ∧ Kp [b] H H' ∧ KTu H6 H' ∧ BoxAt H' b (c + 16) ∧ hw ∈ hows, ?_, fun σ H11 hm => ?_⟩
      · refine ⟨by show 4 ≤ sizeLine; decide, fun l nl => ?_⟩
        refine ⟨_, rfl, b, _, 4, rfl, B10.same (same_upd nl), by decide, by decide, by omega, fun r3 H4 a3 b3 k4 B4 => ?_⟩
        have el := k4 _ _ (box_new B10 nl) upd_same
        obtain ⟨hw, hhw, h1⟩ : ∃ hw, atI [V.str "any", .str "apart", .str "near", .str "wide"] r3 = some (.str hw) ∧ hw ∈ hows := by
          have h3 : r3 = 0 ∨ r3 = 1 ∨ r3 = 2 ∨ r3 = 3 := by omega
          rcases h3 with z | z | z | z
          · rw [z]; exact ⟨_, rfl, by decide⟩
          · rw [z]; exact ⟨_, rfl, by decide⟩
          · rw [z]; exact ⟨_, rfl, by decide⟩
          · rw [z]; exact ⟨_, rfl, by decide⟩
        refine ⟨l, _, r3, .str hw, rfl, rfl, SqL.of el, hhw, hw, rfl, (kp_new k10 nl).trans k4, t10.trans ((kt_new nl).trans (k4.kt (B10.same (same_upd nl)))), B4.le (by omega), h1⟩
      obtain ⟨hw, rfl, k11, t11, B11, hhw⟩ := hm
      -- the gang
      have e11 := k11 _ _ glb hG
      refine ⟨_, rfl, _, rfl, _, rfl, _, rfl, gl, _, rfl, .inl (SqL.of e11), b, _, _, rfl, B11, ?_, ?_, by omega, fun r H1 a1 b1 k1 B1 => ?_⟩
      · rw [List.length_map]
        omega
      · rw [List.length_map]
        omega
      rw [List.length_map] at b1
      obtain ⟨m, rfl⟩ : ∃ m : Nat, r = (m : Int) := ⟨r.toNat, by omega⟩
      have hm : m < gs.length := by omega
      refine ⟨gl, _, (m : Int), .str gs[m], rfl, rfl, SqL.of (k1 _ _ glb e11), atI_nat (by rw [List.getElem?_map, List.getElem?_eq_getElem hm]; rfl), ?_⟩
      refine ⟨_, rfl, _, rfl, _, rfl, _, rfl, _, rfl, 10, 6, rfl, rfl, ⟨by decide, by decide, by decide⟩, b, _, _, rfl, B1, by decide, by decide, by omega, fun ln H2 a2 b2 k2 B2 => ⟨1, ln, rfl, rfl, by show 7 ≤ sizeLine; decide, fun g ng => ?_⟩⟩
      have ten6 : (10 : Int) ^ (6 : Int).toNat = 1000000 := by decide
      rw [ten6] at b2
      have kk : Kp [b] H H2 := (k11.trans k1).trans k2
      refine q g ⟨name, gs[m], rk, mn, ms, hw, 1 + ln⟩ _ ⟨List.getElem_mem hm, l6, a6, s6, m1, m60, r0, r9, by show 1 ≤ 1 + ln; omega, by show 1 + ln ≤ 1000000; omega, hhw⟩ rfl (kp_new kk ng) ((B2.same (same_upd ng)).le (by omega)) (box_free B2 kk ng) ⟨p, upd_same, ?_⟩
      exact kt_new ng _ _ (k2.kt B1 _ _ (k1.kt B11 _ _ (t11 _ _ e6)))
theorem ok_due {f fT : Addr} {fd fdT : FuncData} {k : Nat} (F : Fun K "_law_due" "_law_due" s_scDue f fd) (X : Txt mg)
    (GT : FnOk P w K mg base CX0 k fT fdT ["_law_box_here", "_law_many"] spTakeW) (mT : mg "_law_take" = some (.ref fT)) (kT : PySem.W.keepIn K (.ref fT) = true) (bT : Binds K fdT ["_law_box_here", "_law_many"] []) :
    FnOk P w K mg base CX0 (k + 1) f fd ["_law_box_here", "_law_wares", "_law_wide"] spDue := by
  refine F.ok scDue (fun vs H Q E h => ?_) (fun cdv A outer s H vs Q E hr h => ?_)
  · obtain ⟨b, c, wr, wide, rfl, _⟩ := h
    rfl
  · obtain ⟨b, c, wr, wide, rfl, hB, hc, w1, w8, i1, i12, q⟩ := h
    refine ⟨_, (C8.pss_cut (ps_set (i := 3) scDue.nd rfl (.inr rfl) (pe_op op_mul (pe_ix ix_list (pe_lst (pa_cons pe_int (pa_cons pe_int (pa_cons pe_int (pa_cons pe_int (pa_cons pe_int pa_nil)))))) (pe_call GT hr (by rfl) mT kT bT .nil pass0 (pa_cons (pv 0) (pa_cons pe_int pa_nil))) (fun _ _ => rfl)) (pv 2)))
      (C8.pss_cut (ps_setLc (i := 4) (own := [("_law_k", 5)]) (g := (gName 5)) (tt := tYes) rfl scDue.nd rfl rfl (sw_true rfl rfl rfl (by decide +kernel)) (pi_range1 (by rfl) X.range (pa_cons (pv 1) pa_nil)) (blkOk_by (own := [("_law_k", 5)]) (N := n_scDue) (sc := defScope s_scDue) (by decide +kernel)) (fun _ _ _ _ _ => (pg_name (i := 5) scDue.nd rfl (.inl rfl))) (fun _ _ _ _ _ => pts_nil) (fun _ _ _ _ _ => (pe_callB (call_min2 rfl) (by rfl) X.min (by decide +kernel) (pa_cons (pe_op op_pow pe_int pe_int) (pa_cons (pe_op op_add (pe_op op_fdiv (pv 3) pe_int) (pe_call GT hr (by rfl) mT kT bT .nil pass0 (pa_cons (pv 0) (pa_cons (pe_op op_add (pv 3) pe_int) pa_nil)))) pa_nil)))))
      (C8.pss_cut (ps_if (pt_cmpR op_eq (pe_call GT hr (by rfl) mT kT bT .nil pass0 (pa_cons (pv 0) (pa_cons pe_int pa_nil))) pe_int (nomark _))
        (pss_one (ps_asg pe_int (pg_sub (pv 4) (pe_call GT hr (by rfl) mT kT bT .nil pass0 (pa_cons (pv 0) (pa_cons (pv 1) pa_nil))) set_list)))
        pss_nil)
      (pss_one (ps_ret (pe_callTy call_tuple_of (by rfl) X.tup bt_tuple (pa_cons (pv 4) pa_nil))))))), ?_⟩
    refine ⟨fun σ H' => ∃ mu : Int, σ = [some (.ref b), some (.int (wr : Int)), some (.int wide), some (.int mu), none, none] ∧ Kp [b] H H' ∧ BoxAt H' b (c + 1) ∧ 0 ≤ mu ∧ mu ≤ 300000000000000, ?_, fun σ H1 hm => ?_⟩
    · refine ⟨by show 5 ≤ sizeLine; decide, fun l nl => ⟨_, rfl, b, _, 5, rfl, hB.same (same_upd nl), by decide, by decide, by omega, fun r H4 a3 b3 k4 B4 => ?_⟩⟩
      have el := k4 _ _ (box_new hB nl) upd_same
      obtain ⟨x, hx, h1, h2⟩ : ∃ x : Int, atI [V.int 0, .int 2, .int 8, .int 40, .int 300] r = some (.int x) ∧ 0 ≤ x ∧ x ≤ 300 := by
        have h3 : r = 0 ∨ r = 1 ∨ r = 2 ∨ r = 3 ∨ r = 4 := by omega
        rcases h3 with z | z | z | z | z
        · rw [z]; exact ⟨_, rfl, by decide, by decide⟩
        · rw [z]; exact ⟨_, rfl, by decide, by decide⟩
        · rw [z]; exact ⟨_, rfl, by decide, by decide⟩
        · rw [z]; exact ⟨_, rfl, by decide, by decide⟩
        · rw [z]; exact ⟨_, rfl, by decide, by decide⟩
      refine ⟨l, _, r, .int x, rfl, rfl, SqL.of el, hx, _, rfl, x, wide, rfl, rfl, .inl ⟨by omega, by omega⟩, x * wide, rfl, (kp_new (Kp.refl _ _) nl).trans k4, B4, Int.mul_nonneg h1 (by omega), ?_⟩
      exact Int.le_trans (Int.mul_le_mul_of_nonneg_left i12 h1) (by omega)
    obtain ⟨mu, rfl, k1, B1, u0, u1⟩ := hm
    have ten12 : (10 : Int) ^ (12 : Int).toNat = 1000000000000 := by decide
    refine ⟨fun σ H' => ∃ (D : Addr) (ns : List Int), σ = [some (.ref b), some (.int (wr : Int)), some (.int wide), some (.int mu), some (.ref D), none] ∧ Kp [b] H H' ∧ BoxAt H' b (c + 9) ∧ H D = none ∧ D ≠ b ∧ H' D = some (.lst (ns.map V.int)) ∧ ns.length = wr ∧ Amt ns, ?_, fun σ H2 hm => ?_⟩
    · refine ⟨_, rfl, (wr : Int), rfl, by omega, by omega, fun D nD => ?_⟩
      have nDb : D ≠ b := nb_of B1 nD
      have nDb' : D ∉ [b] := fun z => nDb (List.mem_singleton.mp z)
      have fD : H D = none := kp_free k1 nDb nD
      rw [Int.toNat_natCast]
      refine lc_range (lo := 0) (n := wr) (fun i H' => Kp [b] H H' ∧ BoxAt H' b (c + 1 + (i : Int)) ∧ ∃ ns : List Int, H' D = some (.lst (ns.map V.int)) ∧ ns.length = i ∧ Amt ns)
        ⟨kp_put k1 fD, (B1.same (same_upd nD)).le (by omega), [], upd_same, rfl, fun _ h => (nomatch h)⟩ (fun i H3 hi p => ?_) (fun H3 p => ?_)
      · obtain ⟨p1, p2, ns, p3, p4, p5⟩ := p
        refine ⟨rfl, ?_⟩
        refine ⟨10, 12, rfl, rfl, ⟨by decide, by decide, by decide⟩, _, rfl, mu, 2, rfl, rfl, ⟨by decide, by decide⟩, _, rfl, _, rfl, mu, 1, rfl, rfl, b, _, mu + 1, rfl, p2, by omega, by omega, by omega, fun m H4 m0 m1 k4 B4 => ⟨mu / 2, m, rfl, rfl, _, _, rfl, _, k4 _ _ nDb' p3, ?_, kp_put (p1.trans k4) fD, ?_, ns ++ [if mu / 2 + m < 10 ^ Int.toNat 12 then mu / 2 + m else 10 ^ Int.toNat 12], ?_, ?_, amt_app p5 ?_ ?_⟩⟩
        · rw [List.length_map, p4]
          exact small1000 (by omega)
        · obtain ⟨xs, h1, h2⟩ := B4.le (c' := c + 1 + ((i + 1 : Nat) : Int)) (by omega)
          exact ⟨xs, by rw [upd_ne nDb.symm]; exact h1, h2⟩
        · rw [upd_same, List.map_append]
          rfl
        · rw [List.length_append, p4]
          rfl
        · rw [ten12]
          split <;> omega
        · rw [ten12]
          split <;> omega
      · obtain ⟨p1, p2, ns, p3, p4, p5⟩ := p
        exact ⟨D, ns, rfl, p1, p2.le (by omega), fD, nDb, p3, p4, p5⟩
    obtain ⟨D, ns, rfl, k2, B2, fD, nDb, e2, l2, a2⟩ := hm
    have nDb' : D ∉ [b] := fun z => nDb (List.mem_singleton.mp z)
    refine ⟨fun σ H' => ∃ (ns : List Int), σ = [some (.ref b), some (.int (wr : Int)), some (.int wide), some (.int mu), some (.ref D), none] ∧ Kp [b] H H' ∧ BoxAt H' b (c + 11) ∧ H' D = some (.lst (ns.map V.int)) ∧ ns.length = wr ∧ Amt ns, ?_, fun σ H3 hm => ?_⟩
    · refine ⟨_, rfl, b, _, 8, rfl, B2, by decide, by decide, by omega, fun r H4 r0 r1 k4 B4 => ⟨rfl, _, rfl, ite2 (fun e => ?_) (fun e => ?_)⟩⟩
      · refine ⟨_, rfl, _, rfl, _, rfl, b, _, (wr : Int), rfl, B4, by omega, by omega, by omega, fun j H5 j0 j1 k5 B5 => ?_⟩
        obtain ⟨m, rfl⟩ : ∃ m : Nat, j = (m : Int) := ⟨j.toNat, by omega⟩
        refine ⟨D, _, (m : Int), m, rfl, rfl, k5 _ _ nDb' (k4 _ _ nDb' e2), ?_, ns.set m 0, rfl, kp_put ((k2.trans k4).trans k5) fD, ?_, ?_, ?_, fun x hx => ?_⟩
        · rw [List.length_map]
          exact ixAt (by omega)
        · obtain ⟨xs, h1, h2⟩ := B5.le (c' := c + 11) (by omega)
          exact ⟨xs, by rw [upd_ne nDb.symm]; exact h1, h2⟩
        · rw [upd_same, List.map_set]
        · rw [List.length_set, l2]
        · rcases List.mem_or_eq_of_mem_set hx with z | z
          · exact a2 x z
          · rw [z]
            exact ⟨by decide, by decide⟩
      · exact ⟨ns, rfl, k2.trans k4, B4.le (by omega), k4 _ _ nDb' e2, l2, a2⟩
    obtain ⟨ms, rfl, k3, B3, e3, l3, a3⟩ := hm
    refine ⟨_, rfl, D, _, rfl, .inl ⟨SqL.of e3, fun p np => ?_⟩⟩
    exact q p ms _ a3 l3 (kp_new k3 np) ((B3.same (same_upd np)).le (by omega)) (box_free B3 k3 np) upd_same
end
end My

namespace My
open PySem PySem.Spec PyProof.Rows L2 GX GxR
theorem sIx_nat (n d j : Nat) : HT.sIx n d (some (j : Int)) = min j n := by
  show (if (j : Int) < 0 then ((j : Int) + (n : Int)).toNat else min (j : Int).toNat n) = min j n
  rw [if_neg (by omega), Int.toNat_natCast]
theorem cut_drop (xs : List V) (j : Nat) : cutV xs (some (j : Int)) none = xs.drop j := by
  unfold cutV
  rw [HT.sIx_none, sIx_nat]
  by_cases h : j ≤ xs.length
  · rw [Nat.min_eq_left h, List.take_of_length_le (by rw [List.length_drop]; exact Nat.le_refl _)]
  · rw [Nat.min_eq_right (by omega), Nat.sub_self, List.take_zero, List.drop_eq_nil_of_le (by omega)]
theorem cut_take (xs : List V) (j : Nat) : cutV xs none (some (j : Int)) = xs.take j := by
  unfold cutV
  rw [HT.sIx_none, sIx_nat, List.drop_zero, Nat.sub_zero]
  by_cases h : j ≤ xs.length
  · rw [Nat.min_eq_left h]
  · rw [Nat.min_eq_right (by omega), List.take_of_length_le (Nat.le_refl _), List.take_of_length_le (by omega)]
/-! guilds -/
def some12 : List Str := ["n", "no", "nor", "north", "s", "so", "e", "west", "westward", "ab", "a", "zz"]
def guildsOf (t n : Nat) : List Str := (some12.drop t ++ some12.take t).take n
structure GsOk (gs : List Str) : Prop where
  nd : gs.Nodup
  l1 : 1 ≤ gs.length
  l12 : gs.length ≤ 12
  str : ∀ z ∈ gs, PySem.PyData.strOk z = true
  len : ∀ z ∈ gs, z.length ≤ 8
theorem guilds_ok1 : ∀ t, t < 12 → ∀ n ∈ [1, 2, 4, 12], (guildsOf t n).Nodup ∧ 1 ≤ (guildsOf t n).length ∧ (guildsOf t n).length ≤ 12 ∧ (∀ z ∈ guildsOf t n, PySem.PyData.strOk z = true ∧ z.length ≤ 8) := by decide +kernel
theorem guilds_ok {t n : Nat} (h : t < 12) (hn : n ∈ [1, 2, 4, 12]) : GsOk (guildsOf t n) := by
  obtain ⟨h1, h2, h3, h4⟩ := guilds_ok1 t h n hn
  exact ⟨h1, h2, h3, fun z hz => (h4 z hz).1, fun z hz => (h4 z hz).2⟩
/-! names of rows -/
def ten : Str := "abcdefghij"
def rowName (i : Nat) : Str := Txt.mul ⟨#[ten.cps.toList.getD (i / 6) 0]⟩ (1 + ((i % 6 : Nat) : Int))
def allNames : List Str := (List.range 60).map rowName
theorem names_ok1 : allNames.Nodup ∧ (∀ z ∈ allNames, PySem.PyData.strOk z = true ∧ z.length ≤ 8 ∧ z ∉ (["z", "aaaaaaa", "zed"] : List Str)) := by decide +kernel
theorem rowName_inj {i j : Nat} (hi : i < 60) (hj : j < 60) (h : rowName i = rowName j) : i = j := by
  have nd := names_ok1.1
  have gi : ∀ {i : Nat}, i < 60 → allNames[i]? = some (rowName i) := fun {i} hi => by
    unfold allNames
    rw [List.getElem?_map, List.getElem?_range hi]
    rfl
  have g1 := gi hi
  have g2 := gi hj
  rw [← h] at g2
  obtain ⟨l1, e1⟩ := List.getElem?_eq_some_iff.mp g1
  obtain ⟨l2, e2⟩ := List.getElem?_eq_some_iff.mp g2
  exact (List.getElem_inj nd).mp (e1.trans e2.symm)
theorem rowName_mem {i : Nat} (hi : i < 60) : rowName i ∈ allNames := List.mem_map.mpr ⟨i, List.mem_range.mpr hi, rfl⟩
theorem mul_okB (i : Nat) {n : Int} (h0 : 1 ≤ n) (h1 : n ≤ 6) : MulOk ⟨#[i]⟩ n :=
  mulOk_of 16 1048576 (by show 1 ≤ 16; decide) (by omega) (by omega) (by decide) (by decide)
/-! dues -/
def DueAt (H : Hp) (p : Key × V) (kv : Str × List Int) : Prop := p.1 = Sum.inr kv.1 ∧ ∃ a, p.2 = .ref a ∧ H a = some (.tup (kv.2.map V.int))
def DuesAt (H : Hp) (d : Addr) (kvs : List (Str × List Int)) : Prop := ∃ ps : List (Key × V), H d = some (.dK ps) ∧ Paired (DueAt H) ps kvs
theorem DueAt.kt {H H' : Hp} {p : Key × V} {kv : Str × List Int} (k : KTu H H') (h : DueAt H p kv) : DueAt H' p kv := by
  obtain ⟨e, a, h1, h2⟩ := h
  exact ⟨e, a, h1, k _ _ h2⟩
theorem DuesAt.kt {H H' : Hp} {d : Addr} {kvs : List (Str × List Int)} (k : KTu H H') (hd : ∀ o, H d = some o → H' d = some o) (h : DuesAt H d kvs) : DuesAt H' d kvs := by
  obtain ⟨ps, h1, h2⟩ := h
  exact ⟨ps, hd _ h1, h2.mono fun _ _ x => x.kt k⟩
def duePut (kvs : List (Str × List Int)) (g : Str) (ns : List Int) : List (Str × List Int) := kvs.map fun kv => if kv.1 = g then (kv.1, ns) else kv
theorem duePut_keys (kvs : List (Str × List Int)) (g : Str) (ns : List Int) : (duePut kvs g ns).map (·.1) = kvs.map (·.1) := by
  unfold duePut
  rw [List.map_map]
  refine List.map_congr_left fun kv _ => ?_
  show (if kv.1 = g then (kv.1, ns) else kv).1 = kv.1
  split <;> rfl
theorem due_put {H : Hp} {g : Str} {ns : List Int} {a : Addr} (ha : H a = some (.tup (ns.map V.int))) : ∀ {ps : List (Key × V)} {kvs : List (Str × List Int)}, Paired (DueAt H) ps kvs → Paired (DueAt H) (ps.map fun kv => if kv.1 = Sum.inr g then (kv.1, .ref a) else kv) (duePut kvs g ns)
  | _, _, .nil => .nil
  | p :: ps, kv :: kvs, .cons h t => by
    obtain ⟨e, x⟩ := h
    refine .cons ?_ (due_put ha t)
    show DueAt H (if p.1 = Sum.inr g then (p.1, V.ref a) else p) (if kv.1 = g then (kv.1, ns) else kv)
    by_cases z : kv.1 = g
    · have z' : p.1 = Sum.inr g := by rw [e, z]
      rw [if_pos z', if_pos z]
      exact ⟨e, a, rfl, ha⟩
    · have z' : ¬ p.1 = Sum.inr g := fun q => z (by rw [e] at q; exact Sum.inr.inj q)
      rw [if_neg z', if_neg z]
      exact ⟨e, x⟩
theorem due_any {H : Hp} {g : Str} : ∀ {ps : List (Key × V)} {kvs : List (Str × List Int)}, Paired (DueAt H) ps kvs → g ∈ kvs.map (·.1) → (ps.any fun kv => decide (kv.1 = Sum.inr g)) = true
  | _, _, .nil, h => nomatch h
  | p :: ps, kv :: kvs, .cons h t, hm => by
    rw [List.any_cons]
    rcases List.mem_cons.mp hm with z | z
    · have z' : p.1 = Sum.inr g := by rw [h.1]; exact congrArg Sum.inr z.symm
      rw [decide_eq_true z']
      rfl
    · rw [due_any t z, Bool.or_true]
theorem merge_nd : ∀ (ps acc : List (Key × V)), ((acc ++ ps).map (·.1)).Nodup → mergeK acc ps = acc ++ ps
  | [], acc, _ => by rw [List.append_nil]; rfl
  | p :: ps, acc, h => by
    show mergeK (putK acc p.1 p.2) ps = _
    have hn : ∀ kv ∈ acc, kv.1 ≠ p.1 := fun kv hk z => by
      rw [List.map_append, List.nodup_append] at h
      exact h.2.2 kv.1 (List.mem_map.mpr ⟨kv, hk, rfl⟩) p.1 (List.mem_map.mpr ⟨p, List.mem_cons_self, rfl⟩) z
    have hv : (acc.any fun kv => decide (kv.1 = p.1)) = false := by
      rw [List.any_eq_false]
      intro kv hk
      simpa using hn kv hk
    have e : putK acc p.1 p.2 = acc ++ [p] := by
      unfold putK
      rw [hv]
      rfl
    rw [e, merge_nd ps (acc ++ [p]) (by rw [List.append_assoc]; exact h), List.append_assoc]
    rfl
theorem due_keys {H : Hp} : ∀ {ps : List (Key × V)} {kvs : List (Str × List Int)}, Paired (DueAt H) ps kvs → ps.map (·.1) = (kvs.map (·.1)).map Sum.inr
  | _, _, .nil => rfl
  | p :: ps, kv :: kvs, .cons h t => by
    rw [List.map_cons, List.map_cons, List.map_cons, due_keys t, h.1]
theorem keys_nd {gs : List Str} (h : gs.Nodup) : (gs.map (Sum.inr : Str → Key)).Nodup := by
  unfold List.Nodup at *
  rw [List.pairwise_map]
  exact h.imp fun hne z => hne (Sum.inr.inj z)
/-! rows -/
structure RowOk (gs : List Str) (wr : Nat) (i : Nat) (R : Gang × Int) : Prop where
  ok : GangOk gs wr R.1
  name : R.1.name = rowName i
  n0 : 0 ≤ R.2
  nm : R.2 % 100 = (i : Int)
  n1 : R.2 < 6100
def RowsOk (gs : List Str) (wr : Nat) (Rs : List (Gang × Int)) : Prop := Rs.length ≤ 60 ∧ ∀ i R, Rs[i]? = some R → RowOk gs wr i R
theorem RowsOk.snoc {gs : List Str} {wr : Nat} {Rs : List (Gang × Int)} {R : Gang × Int} (h : RowsOk gs wr Rs) (hl : Rs.length < 60) (r : RowOk gs wr Rs.length R) : RowsOk gs wr (Rs ++ [R]) := by
  refine ⟨by rw [List.length_append]; show Rs.length + 1 ≤ 60; omega, fun i R' e => ?_⟩
  by_cases z : i < Rs.length
  · rw [List.getElem?_append_left z] at e
    exact h.2 i R' e
  · rw [List.getElem?_append_right (by omega)] at e
    have hz : i - Rs.length = 0 := by
      obtain ⟨q, _⟩ := List.getElem?_eq_some_iff.mp e
      have : i - Rs.length < 1 := q
      omega
    rw [hz] at e
    cases e
    rw [show i = Rs.length by omega]
    exact r
/-- what stands while the state is drawn: H as it was at first, H' as it is -/
structure Drawn (H : Hp) (hb gl : Addr) (gs : List Str) (c : Int) (H' : Hp) : Prop where
  same : Same H H'
  box : BoxAt H' hb c
  gl : H' gl = some (.lst (gs.map V.str))
theorem same_kp {H H1 H2 : Hp} {b : Addr} (s : Same H H1) (n : H b = none) (k : Kp [b] H1 H2) : Same H H2 := fun x o e => k x o (fun z => by
  rw [List.mem_singleton.mp z, n] at e
  cases e) (s x o e)
theorem same_put {H H1 : Hp} {b : Addr} {o : HO} (s : Same H H1) (n : H b = none) : Same H (upd H1 b o) := fun x u e => by
  rw [upd_ne (ne_of_none e n)]
  exact s x u e
theorem Drawn.new {H H' H2 : Hp} {hb gl : Addr} {gs : List Str} {c : Int} (D : Drawn H hb gl gs c H') (s : Same H' H2) : Drawn H hb gl gs c H2 :=
  ⟨D.same.trans s, D.box.same s, s _ _ D.gl⟩
theorem Drawn.asked {H H' H2 : Hp} {hb gl : Addr} {gs : List Str} {c c' : Int} (D : Drawn H hb gl gs c H') (n : H hb = none) (k : Kp [hb] H' H2) (B : BoxAt H2 hb c') : Drawn H hb gl gs c' H2 :=
  ⟨same_kp D.same n k, B, k _ _ (fun z => box_strs D.box D.gl (List.mem_singleton.mp z)) D.gl⟩
theorem Drawn.other {H H' H2 : Hp} {hb gl b : Addr} {gs : List Str} {c c' : Int} (D : Drawn H hb gl gs c H') (n : H b = none) (nb : b ≠ hb) (B : BoxAt H' b c') (k : Kp [b] H' H2) : Drawn H hb gl gs c H2 :=
  ⟨same_kp D.same n k, D.box.kp k fun z => nb (List.mem_singleton.mp z).symm, k _ _ (fun z => box_strs B D.gl (List.mem_singleton.mp z)) D.gl⟩
theorem Drawn.put {H H' : Hp} {hb gl p : Addr} {gs : List Str} {c : Int} {o : HO} (D : Drawn H hb gl gs c H') (n : H p = none) (n1 : p ≠ hb) (n2 : p ≠ gl) : Drawn H hb gl gs c (upd H' p o) := by
  refine ⟨same_put D.same n, ?_, by rw [upd_ne n2.symm]; exact D.gl⟩
  obtain ⟨xs, h1, h2⟩ := D.box
  exact ⟨xs, by rw [upd_ne n1.symm]; exact h1, h2⟩
theorem Drawn.le {H H' : Hp} {hb gl : Addr} {gs : List Str} {c c' : Int} (D : Drawn H hb gl gs c H') (h : c ≤ c') : Drawn H hb gl gs c' H' := ⟨D.same, D.box.le h, D.gl⟩
/-- the rows so far, at r -/
def RowsAt (H : Hp) (r : Addr) (Rs : List (Gang × Int)) : Prop := ∃ as : List Addr, H r = some (.lst (as.map V.ref)) ∧ Paired (RowAt H) as Rs
theorem RowsAt.kt {H H' : Hp} {r : Addr} {Rs : List (Gang × Int)} (k : KTu H H') (hr : ∀ o, H r = some o → H' r = some o) (h : RowsAt H r Rs) : RowsAt H' r Rs := by
  obtain ⟨as, h1, h2⟩ := h
  exact ⟨as, hr _ h1, h2.mono fun _ _ x => x.kt k⟩
/-- what the state is: its dues, its rows, its gang -/
structure StateAt (H' : Hp) (d r g : Addr) (gs : List Str) (wr : Nat) (kvs : List (Str × List Int)) (Rs : List (Gang × Int)) (G : Gang) : Prop where
  gsok : GsOk gs
  w1 : 1 ≤ wr
  w8 : wr ≤ 8
  dues : DuesAt H' d kvs
  keys : kvs.map (·.1) = gs
  amts : ∀ kv ∈ kvs, Amt kv.2 ∧ kv.2.length = wr
  rows : RowsAt H' r Rs
  rok : RowsOk gs wr Rs
  gang : GangAt H' g G
  gok : GangOk gs wr G
  gname : G.name ∈ (["z", "aaaaaaa", "zed"] : List Str)
def spState (K : PySem.W.Frag) : Sp := fun vs H Q _ => ∃ (a : Addr) (ns : List Int), vs = [.ref a] ∧ SqL K H a (ns.map V.int) ∧ ns.length ≤ 63 ∧
  ∀ t d r g gs wr kvs Rs G H', Same H H' → H t = none → H' t = some (.tup [.ref d, .ref r, .ref g]) → H d = none → H r = none → StateAt H' d r g gs wr kvs Rs G → Q (.ref t) H'
/-- a pair (guild, due) -/
def PairAt (H : Hp) (p : Addr) (kv : Str × List Int) : Prop := ∃ a, H p = some (.tup [.str kv.1, .ref a]) ∧ H a = some (.tup (kv.2.map V.int))
theorem PairAt.kt {H H' : Hp} {p : Addr} {kv : Str × List Int} (k : KTu H H') (h : PairAt H p kv) : PairAt H' p kv := by
  obtain ⟨a, h1, h2⟩ := h
  exact ⟨a, k _ _ h1, k _ _ h2⟩
theorem pair_split {K : PySem.W.Frag} {H : Hp} : ∀ {ps : List Addr} {kvs : List (Str × List Int)}, Paired (PairAt H) ps kvs → ∃ qs : List (Key × V), Paired (fun p kv => SqT K H p [kV kv.1, kv.2]) ps qs ∧ Paired (DueAt H) qs kvs
  | _, _, .nil => ⟨[], .nil, .nil⟩
  | p :: ps, kv :: kvs, .cons h t => by
    obtain ⟨qs, h1, h2⟩ := pair_split (K := K) t
    obtain ⟨a, g1, g2⟩ := h
    exact ⟨(Sum.inr kv.1, .ref a) :: qs, .cons (SqT.of g1) h1, .cons ⟨rfl, a, rfl, g2⟩ h2⟩
def GangsAt (gs : List Str) (wr : Nat) (H : Hp) (ds : List Addr) : Prop := ∀ x ∈ ds, ∃ G, GangAt H x G ∧ GangOk gs wr G
theorem GangsAt.kt {gs : List Str} {wr : Nat} {H H' : Hp} {ds : List Addr} (k : KTu H H') (h : GangsAt gs wr H ds) : GangsAt gs wr H' ds := fun x hx => by
  obtain ⟨G, h1, h2⟩ := h x hx
  exact ⟨G, h1.kt k, h2⟩
theorem sum_nn : ∀ {ns : List Int}, (∀ n ∈ ns, 0 ≤ n) → 0 ≤ ns.sum
  | [], _ => Int.le_refl _
  | n :: ns, h => by
    rw [List.sum_cons]
    have h1 := h n List.mem_cons_self
    have h2 := sum_nn fun x hx => h x (List.mem_cons_of_mem _ hx)
    omega
theorem paired_get {α β : Type} {R : α → β → Prop} : ∀ {xs : List α} {ys : List β}, Paired R xs ys → ∀ {i : Nat} {x : α}, xs[i]? = some x → ∃ y, ys[i]? = some y ∧ R x y
  | _, _, .nil, _, _, h => by simp at h
  | x :: xs, y :: ys, .cons r t, 0, z, h => by
    cases h
    exact ⟨y, rfl, r⟩
  | x :: xs, y :: ys, .cons r t, i + 1, z, h => paired_get t (i := i) (by simpa using h)
theorem paired_get2 {α β : Type} {R : α → β → Prop} : ∀ {xs : List α} {ys : List β}, Paired R xs ys → ∀ {i : Nat} {y : β}, ys[i]? = some y → ∃ x, xs[i]? = some x ∧ R x y
  | _, _, .nil, _, _, h => by simp at h
  | x :: xs, y :: ys, .cons r t, 0, z, h => by
    cases h
    exact ⟨x, rfl, r⟩
  | x :: xs, y :: ys, .cons r t, i + 1, z, h => paired_get2 t (i := i) (by simpa using h)
theorem map_get {α : Type} {f : α → V} {xs : List α} {i : Nat} {v : V} (h : (xs.map f)[i]? = some v) : ∃ x, xs[i]? = some x ∧ v = f x := by
  rw [List.getElem?_map] at h
  cases e : xs[i]? with
  | none => rw [e] at h; cases h
  | some x =>
    rw [e] at h
    exact ⟨x, rfl, (Option.some.inj h).symm⟩
theorem small63 {n : Nat} (h : n ≤ 200) : n < sizeLine := small1000 (by omega)
def rLenS (K : PySem.W.Frag) : List V → Hp → VK → Prop := fun xs H Q => ∃ p ys, xs = [.ref p] ∧ (SqL K H p ys ∨ SqT K H p ys) ∧ Q (.int ys.length) H
def rTupOf (K : PySem.W.Frag) : List V → Hp → VK → Prop := fun xs H Q => ∃ p ys, xs = [.ref p] ∧ ((SqL K H p ys ∧ ∀ l, H l = none → Q (.ref l) (upd H l (.tup ys))) ∨ (SqT K H p ys ∧ Q (.ref p) H))
def rLstOf (K : PySem.W.Frag) : List V → Hp → VK → Prop := fun xs H Q => ∃ p ys, xs = [.ref p] ∧ (SqL K H p ys ∨ SqT K H p ys) ∧ ∀ l, H l = none → Q (.ref l) (upd H l (.lst ys))
end My

namespace My
open PySem PySem.Spec PyProof.Rows L2 GX GxR
abbrev s_scState : Stmt := topS 29
abbrev n_scState : List Str := ["_law_script", "_law_head", "_law_wares", "_law_wide", "_law_some", "_law_turn", "_law_guilds", "_law_guild_here", "_law_dues", "_law_rows", "_law_k", "_law_box_here", "_law_again", "_law_name", "_law_gang_here", "_law_few", "_law_borne", "_law_row", "_law_one"]
theorem scState : FnScope n_scState ["_law_script"] (defScope s_scState) := ⟨rfl, rfl, rfl, by decide +kernel, rfl, by decide +kernel, by decide +kernel⟩
section
variable {P : Program} {w : World} {K : PySem.W.Frag} {mg : Str → Option Value} {base : Heap}
theorem ok_state {f fB fT fG fU : Addr} {fd fdB fdT fdG fdU : FuncData} {k : Nat} (F : Fun K "_law_state" "_law_state" s_scState f fd) (X : Txt mg) (mDict : mg "dict" = none) (mSum : mg "sum" = none)
    (GB : FnOk P w K mg base CX0 k fB fdB ["_law_script", "_law_k"] (spBox K)) (mB : mg "_law_box" = some (.ref fB)) (kB : PySem.W.keepIn K (.ref fB) = true) (bB : Binds K fdB ["_law_script", "_law_k"] [])
    (GT : FnOk P w K mg base CX0 k fT fdT ["_law_box_here", "_law_many"] spTakeW) (mT : mg "_law_take" = some (.ref fT)) (kT : PySem.W.keepIn K (.ref fT) = true) (bT : Binds K fdT ["_law_box_here", "_law_many"] [])
    (GG : FnOk P w K mg base CX0 k fG fdG ["_law_box_here", "_law_name", "_law_guilds", "_law_wares", "_law_wide"] spGang) (mG : mg "_law_gang" = some (.ref fG)) (kG : PySem.W.keepIn K (.ref fG) = true) (bG : Binds K fdG ["_law_box_here", "_law_name", "_law_guilds", "_law_wares", "_law_wide"] [])
    (GU : FnOk P w K mg base CX0 k fU fdU ["_law_box_here", "_law_wares", "_law_wide"] spDue) (mU : mg "_law_due" = some (.ref fU)) (kU : PySem.W.keepIn K (.ref fU) = true) (bU : Binds K fdU ["_law_box_here", "_law_wares", "_law_wide"] []) :
    FnOk P w K mg base CX0 (k + 1) f fd ["_law_script"] (spState K) := by
  refine F.ok scState (fun vs H Q E h => ?_) (fun cdv A outer s H vs Q E hr h => ?_)
  · obtain ⟨a, ns, rfl, _⟩ := h
    rfl
  · obtain ⟨a, ns, rfl, hS, hl, q⟩ := h
    refine ⟨_, (pss_cons (ps_set (i := 1) scState.nd rfl (.inr rfl) (pe_call GB hr (by rfl) mB kB bB .nil pass0 (pa_cons (pv 0) (pa_cons pe_int pa_nil))))
      (C8.pss_cut (ps_set (i := 2) scState.nd rfl (.inr rfl) (pe_ix ix_list (pe_lst (pa_cons (pe_op op_add pe_int (pe_call GT hr (by rfl) mT kT bT .nil pass0 (pa_cons (pv 1) (pa_cons pe_int pa_nil)))) (pa_cons (pe_op op_add pe_int (pe_call GT hr (by rfl) mT kT bT .nil pass0 (pa_cons (pv 1) (pa_cons pe_int pa_nil)))) pa_nil))) (pe_call GT hr (by rfl) mT kT bT .nil pass0 (pa_cons (pv 1) (pa_cons pe_int pa_nil))) (fun _ _ => rfl)))
      (C8.pss_cut (ps_set (i := 3) scState.nd rfl (.inr rfl) (pe_ix ix_list (pe_lst (pa_cons pe_int (pa_cons pe_int (pa_cons pe_int (pa_cons (pe_op op_pow pe_int pe_int) pa_nil))))) (pe_call GT hr (by rfl) mT kT bT .nil pass0 (pa_cons (pv 1) (pa_cons pe_int pa_nil))) (fun _ _ => rfl)))
      (pss_cons (ps_set (i := 4) scState.nd rfl (.inl rfl) (pe_lst (pa_cons pe_str (pa_cons pe_str (pa_cons pe_str (pa_cons pe_str (pa_cons pe_str (pa_cons pe_str (pa_cons pe_str (pa_cons pe_str (pa_cons pe_str (pa_cons pe_str (pa_cons pe_str (pa_cons pe_str pa_nil))))))))))))))
      (pss_cons (ps_set (i := 5) scState.nd rfl (.inl rfl) (pe_call GT hr (by rfl) mT kT bT .nil pass0 (pa_cons (pv 1) (pa_cons pe_int pa_nil))))
      (C8.pss_cut (ps_set (i := 6) scState.nd rfl (.inl rfl) (pe_slice sl_list (pe_op op_cat (pe_slice sl_list (pv 4) (po_some (pv 5)) po_none) (pe_slice sl_list (pv 4) po_none (po_some (pv 5)))) po_none (po_some (pe_ix ix_list (pe_lst (pa_cons pe_int (pa_cons pe_int (pa_cons pe_int (pa_cons pe_int pa_nil))))) (pe_call GT hr (by rfl) mT kT bT .nil pass0 (pa_cons (pv 1) (pa_cons pe_int pa_nil))) (fun _ _ => rfl)))))
      (C8.pss_cut (ps_set (i := 8) scState.nd rfl (.inl rfl) (pe_callTy (call_dictP rfl) (by rfl) mDict (by decide +kernel) (pa_cons (pe_lc (own := [("_law_guild_here", 7)]) (g := (gName 7)) (tt := tYes) rfl scState.nd (pi_list (pv 6)) (blkOk_by (own := [("_law_guild_here", 7)]) (N := n_scState) (sc := defScope s_scState) (by decide +kernel)) (fun _ _ _ _ _ => (pg_name (i := 7) scState.nd rfl (.inl rfl))) (fun _ _ _ _ _ => pts_nil) (fun _ _ _ _ _ => (pe_tup (pa_cons (pv 7) (pa_cons (pe_call GU hr (by rfl) mU kU bU .nil pass0 (pa_cons (pv 1) (pa_cons (pv 2) (pa_cons (pv 3) pa_nil)))) pa_nil))))) pa_nil)))
      (pss_cons (ps_set (i := 9) scState.nd rfl (.inl rfl) (pe_lst pa_nil))
      (C8.pss_cut (ps_for PassesOwn.never rfl (pi_range2 (by rfl) X.range (pa_cons pe_int (pa_cons (pe_callB call_len_seq (by rfl) X.len PySem.boot_len (pa_cons (pv 0) pa_nil)) pa_nil))) (pg_name (i := 10) scState.nd rfl (.inl rfl))
        (pss_cons (ps_set (i := 11) scState.nd rfl (.inl rfl) (pe_call GB hr (by rfl) mB kB bB .nil pass0 (pa_cons (pv 0) (pa_cons (pv 10) pa_nil))))
        (pss_one (ps_for PassesOwn.never rfl (pi_range1 (by rfl) X.range (pa_cons (pe_op op_add pe_int (pe_callTy call_int1 (by rfl) X.int bt_int (pa_cons (pe_cmpR op_eq (pe_call GT hr (by rfl) mT kT bT .nil pass0 (pa_cons (pv 11) (pa_cons pe_int pa_nil))) pe_int (nomark _)) pa_nil))) pa_nil)) (pg_name (i := 12) scState.nd rfl (.inl rfl))
          (pss_one (ps_if (pt_cmpR op_lt (pe_callB call_len_seq (by rfl) X.len PySem.boot_len (pa_cons (pv 9) pa_nil)) pe_int (nomark _))
            (pss_cons (ps_set (i := 13) scState.nd rfl (.inl rfl) (pe_op op_mul_str (pe_ix ix_str pe_str (pe_op op_fdiv (pe_callB call_len_seq (by rfl) X.len PySem.boot_len (pa_cons (pv 9) pa_nil)) pe_int) (fun _ _ => rfl)) (pe_op op_add pe_int (pe_op op_mod (pe_callB call_len_seq (by rfl) X.len PySem.boot_len (pa_cons (pv 9) pa_nil)) pe_int))))
            (pss_one (ps_expr (pe_bm PySem.F.plainAttrs_list PySem.F.slot_list_append PySem.F.type_list_append mt_append (pv 9) (pa_cons (pe_tup (pa_cons (pe_call GG hr (by rfl) mG kG bG .nil pass0 (pa_cons (pv 11) (pa_cons (pv 13) (pa_cons (pv 6) (pa_cons (pv 2) (pa_cons (pv 3) pa_nil)))))) (pa_cons (pe_op op_add (pe_op op_mul pe_int (pe_call GT hr (by rfl) mT kT bT .nil pass0 (pa_cons (pv 11) (pa_cons pe_int pa_nil)))) (pe_callB call_len_seq (by rfl) X.len PySem.boot_len (pa_cons (pv 9) pa_nil))) pa_nil))) pa_nil)))))
            pss_nil))))))
      (C8.pss_cut (ps_set (i := 14) scState.nd rfl (.inl rfl) (pe_call GG hr (by rfl) mG kG bG .nil pass0 (pa_cons (pv 1) (pa_cons (pe_ix ix_list (pe_lst (pa_cons pe_str (pa_cons pe_str (pa_cons pe_str pa_nil)))) (pe_call GT hr (by rfl) mT kT bT .nil pass0 (pa_cons (pv 1) (pa_cons pe_int pa_nil))) (fun _ _ => rfl)) (pa_cons (pv 6) (pa_cons (pv 2) (pa_cons (pv 3) pa_nil)))))))
      (C8.pss_cut (ps_for PassesOwn.never rfl (pi_list (pv 6)) (pg_name (i := 7) scState.nd rfl (.inr rfl))
        (pss_cons (ps_set (i := 15) scState.nd rfl (.inr rfl) (pe_op op_cat (pe_slice sl_list (pe_lc (own := [("_law_row", 17)]) (g := (gName 17)) rfl scState.nd (pi_list (pv 9)) (blkOk_by (own := [("_law_row", 17)]) (N := n_scState) (sc := defScope s_scState) (by decide +kernel)) (fun _ _ _ _ _ => (pg_name (i := 17) scState.nd rfl (.inl rfl))) (fun _ _ _ _ _ => pts_one (pt_cmpR op_eq (pe_ix (r := rIxT K) ix_tup (pe_ix (r := rIxT K) ix_tup (pv 17) pe_int (fun _ _ => rfl)) pe_int (fun _ _ => rfl)) (pv 7) (nomark _))) (fun _ _ _ _ _ => (pe_ix (r := rIxT K) ix_tup (pv 17) pe_int (fun _ _ => rfl)))) po_none (po_some (pe_call GT hr (by rfl) mT kT bT .nil pass0 (pa_cons (pv 1) (pa_cons pe_int pa_nil))))) (pe_slice sl_list (pe_lst (pa_cons (pv 14) pa_nil)) po_none (po_some (pe_callTy call_int1 (by rfl) X.int bt_int (pa_cons (pe_cmpR op_eq (pv 7) (pe_ix ix_tup (pv 14) pe_int (fun _ _ => rfl)) (nomark _)) pa_nil))))))
        (pss_cons (ps_set (i := 16) scState.nd rfl (.inl rfl) (pe_callTy call_tuple_of (by rfl) X.tup bt_tuple (pa_cons (pe_lc (own := [("_law_k", 10)]) (g := (gName 10)) (tt := tYes) (te := (tCB (rSum K) (tCons (tLc (iList K (tVar 15)) (gName 18) tYes (tOp (rI CMul fun i j => .int (i * j)) (tOp (rIxT K) (tVar 18) (tC (.int 3))) (tOp (rIxT K) (tOp (rIxT K) (tVar 18) (tC (.int 4))) (tVar 10))) [18]) tNil))) rfl scState.nd (pi_range1 (by rfl) X.range (pa_cons (pv 2) pa_nil)) (blkOk_by (own := [("_law_k", 10)]) (N := n_scState) (sc := defScope s_scState) (by decide +kernel)) (fun _ _ _ _ _ => (pg_name (i := 10) scState.nd rfl (.inr rfl))) (fun _ _ _ _ _ => pts_nil) (fun _ _ _ _ _ => (pe_callB (r := rSum K) (cr_sum rfl) (by rfl) mSum (by decide +kernel) (pa_cons (pe_lc (own := [("_law_one", 18)]) (g := (gName 18)) (tt := tYes) (te := (tOp (rI CMul fun i j => .int (i * j)) (tOp (rIxT K) (tVar 18) (tC (.int 3))) (tOp (rIxT K) (tOp (rIxT K) (tVar 18) (tC (.int 4))) (tVar 10)))) (wi := (iList K (tVar 15))) rfl scState.nd (pi_list (pv 15)) (blkOk_by (own := [("_law_one", 18)]) (by kernel_rfl)) (fun _ _ _ _ _ => (pg_name (i := 18) scState.nd rfl (.inl rfl))) (fun _ _ _ _ _ => pts_nil) (fun _ _ _ _ _ => (pe_op op_mul (pe_ix (r := rIxT K) ix_tup (pv 18) pe_int (fun _ _ => rfl)) (pe_ix (r := rIxT K) ix_tup (pe_ix (r := rIxT K) ix_tup (pv 18) pe_int (fun _ _ => rfl)) (pv 10) (fun _ _ => rfl))))) pa_nil)))) pa_nil)))
        (pss_one (ps_if (PW.pt (pw_and (pt_cmpR op_eq (pe_call GT hr (by rfl) mT kT bT .nil pass0 (pa_cons (pv 1) (pa_cons pe_int pa_nil))) pe_int (nomark _)) (pw_and1 (pt_cmpR op_le (pe_callB (cr_maxT rfl (hu_of hr)) (by rfl) X.max (by decide +kernel) (pa_cons (pv 16) pa_nil)) (pe_op op_pow pe_int pe_int) (nomark _)))))
          (pss_one (ps_dput (hu_of hr) (pv 8) (pv 7) (pv 16) rfl))
          pss_nil)))))
      (pss_one (ps_ret (pe_tup (pa_cons (pv 8) (pa_cons (pv 9) (pa_cons (pv 14) pa_nil))))))))))))))))), ?_⟩
    refine ⟨_, rfl, a, ns, 0, rfl, hS, by omega, fun hb xs nhb bx => ?_⟩
    have s1 : Same H (upd H hb (.lst xs)) := same_upd nhb
    have B1 : BoxAt (upd H hb (.lst xs)) hb 0 := ⟨xs, upd_same, bx⟩
    generalize upd H hb (.lst xs) = H1 at s1 B1 ⊢
    -- wares
    refine ⟨fun σ H' => ∃ wr : Nat, σ = [some (.ref a), some (.ref hb), some (.int (wr : Int)), none, none, none, none, none, none, none, none, none, none, none, none, none, none, none, none] ∧ Same H H' ∧ BoxAt H' hb 3 ∧ 1 ≤ wr ∧ wr ≤ 8, ?_, fun σ H2 hm => ?_⟩
    · refine ⟨_, rfl, hb, _, 2, rfl, B1, by decide, by decide, by decide, fun r1 H2 a1 b1 k1 B2 => ⟨1, r1, rfl, rfl, ?_⟩⟩
      refine ⟨_, rfl, hb, _, 8, rfl, B2, by decide, by decide, by decide, fun r2 H3 a2 b2 k2 B3 => ⟨1, r2, rfl, rfl, by show 2 ≤ sizeLine; decide, fun l nl => ?_⟩⟩
      refine ⟨_, rfl, hb, _, 2, rfl, B3.same (same_upd nl), by decide, by decide, by decide, fun r3 H4 a3 b3 k4 B4 => ?_⟩
      have el := k4 _ _ (box_new B3 nl) upd_same
      obtain ⟨wr, hw, h1, h2⟩ : ∃ wr : Nat, atI [V.int (1 + r1), .int (1 + r2)] r3 = some (.int (wr : Int)) ∧ 1 ≤ wr ∧ wr ≤ 8 := by
        have h3 : r3 = 0 ∨ r3 = 1 := by omega
        rcases h3 with z | z
        · rw [z]; exact ⟨(1 + r1).toNat, by rw [Int.toNat_of_nonneg (by omega)]; rfl, by omega, by omega⟩
        · rw [z]; exact ⟨(1 + r2).toNat, by rw [Int.toNat_of_nonneg (by omega)]; rfl, by omega, by omega⟩
      exact ⟨l, _, r3, .int (wr : Int), rfl, rfl, SqL.of el, hw, wr, rfl, same_kp ((same_kp (same_kp s1 nhb k1) nhb k2).trans (same_upd nl)) nhb k4, B4.le (by omega), h1, h2⟩
    obtain ⟨wr, rfl, s2, B2, w1, w8⟩ := hm
    clear s1 B1
    -- wide
    refine ⟨fun σ H' => ∃ wide : Int, σ = [some (.ref a), some (.ref hb), some (.int (wr : Int)), some (.int wide), none, none, none, none, none, none, none, none, none, none, none, none, none, none, none] ∧ Same H H' ∧ BoxAt H' hb 4 ∧ 1 ≤ wide ∧ wide ≤ 1000000000000, ?_, fun σ H3 hm => ?_⟩
    · refine ⟨10, 12, rfl, rfl, ⟨by decide, by decide, by decide⟩, by show 4 ≤ sizeLine; decide, fun l nl => ?_⟩
      refine ⟨_, rfl, hb, _, 4, rfl, B2.same (same_upd nl), by decide, by decide, by decide, fun r3 H4 a3 b3 k4 B4 => ?_⟩
      have el := k4 _ _ (box_new B2 nl) upd_same
      obtain ⟨wide, hw, h1, h2⟩ : ∃ wide : Int, atI [V.int 2, .int 9, .int 1000, .int ((10 : Int) ^ (12 : Int).toNat)] r3 = some (.int wide) ∧ 1 ≤ wide ∧ wide ≤ 1000000000000 := by
        have h3 : r3 = 0 ∨ r3 = 1 ∨ r3 = 2 ∨ r3 = 3 := by omega
        rcases h3 with z | z | z | z
        · rw [z]; exact ⟨_, rfl, by decide, by decide⟩
        · rw [z]; exact ⟨_, rfl, by decide, by decide⟩
        · rw [z]; exact ⟨_, rfl, by decide, by decide⟩
        · rw [z]; exact ⟨_, rfl, by decide, by decide⟩
      exact ⟨l, _, r3, .int wide, rfl, rfl, SqL.of el, hw, wide, rfl, same_kp (s2.trans (same_upd nl)) nhb k4, B4.le (by omega), h1, h2⟩
    obtain ⟨wide, rfl, s3, B3, i1, i12⟩ := hm
    clear s2 B2
    -- guilds
    refine ⟨by show 12 ≤ sizeLine; decide, fun sl nsl => ?_⟩
    refine ⟨_, rfl, hb, _, 12, rfl, B3.same (same_upd nsl), by decide, by decide, by decide, fun tn H4 t0 t12 k4 B4 => ?_⟩
    have e4 : H4 sl = some (.lst (some12.map V.str)) := k4 _ _ (box_new B3 nsl) upd_same
    have s4 : Same H H4 := same_kp (s3.trans (same_upd nsl)) nhb k4
    obtain ⟨t, rfl⟩ : ∃ t : Nat, tn = (t : Int) := ⟨tn.toNat, by omega⟩
    clear k4
    refine ⟨fun σ H' => ∃ (gl : Addr) (gs : List Str), σ = [some (.ref a), some (.ref hb), some (.int (wr : Int)), some (.int wide), some (.ref sl), some (.int (t : Int)), some (.ref gl), none, none, none, none, none, none, none, none, none, none, none, none] ∧ Drawn H hb gl gs 6 H' ∧ H gl = none ∧ GsOk gs, ?_, fun σ H5 hm => ?_⟩
    · refine ⟨_, rfl, _, rfl, (t : Int), rfl, sl, _, rfl, SqL.of e4, fun p1 np1 => ?_⟩
      rw [cut_drop, ← List.map_drop]
      refine ⟨_, rfl, _, rfl, (t : Int), rfl, sl, _, rfl, SqL.of (same_upd np1 _ _ e4), fun p2 np2 => ?_⟩
      rw [cut_take, ← List.map_take]
      refine ⟨p1, p2, _, _, rfl, rfl, same_upd np2 _ _ upd_same, upd_same, ?_, fun p3 np3 => ?_⟩
      · rw [List.length_map, List.length_map, List.length_drop, List.length_take]
        exact Nat.le_of_lt (small63 (by show 12 - t + min t 12 ≤ 200; omega))
      rw [← List.map_append]
      have s7 := ((same_upd (o := .lst ((some12.drop t).map V.str)) np1).trans (same_upd (o := .lst ((some12.take t).map V.str)) np2)).trans (same_upd (o := .lst ((some12.drop t ++ some12.take t).map V.str)) np3)
      refine ⟨by show 4 ≤ sizeLine; decide, fun l nl => ⟨_, rfl, hb, _, 4, rfl, (B4.same s7).same (same_upd nl), by decide, by decide, by decide, fun r H8 r0 r4 k8 B8 => ?_⟩⟩
      have el := k8 _ _ (box_new (B4.same s7) nl) upd_same
      have e8 := k8 _ _ (box_new (B4.same ((same_upd (o := .lst ((some12.drop t).map V.str)) np1).trans (same_upd (o := .lst ((some12.take t).map V.str)) np2))) np3) (same_upd nl _ _ upd_same)
      obtain ⟨n, hn, h1⟩ : ∃ n : Nat, atI [V.int 1, .int 2, .int 4, .int 12] r = some (.int (n : Int)) ∧ n ∈ [1, 2, 4, 12] := by
        have h3 : r = 0 ∨ r = 1 ∨ r = 2 ∨ r = 3 := by omega
        rcases h3 with z | z | z | z
        · rw [z]; exact ⟨1, rfl, by decide⟩
        · rw [z]; exact ⟨2, rfl, by decide⟩
        · rw [z]; exact ⟨4, rfl, by decide⟩
        · rw [z]; exact ⟨12, rfl, by decide⟩
      refine ⟨l, _, r, .int (n : Int), rfl, rfl, SqL.of el, hn, (n : Int), rfl, p3, _, rfl, SqL.of e8, fun gl ngl => ?_⟩
      rw [cut_take, ← List.map_take]
      have s8 : Same H H8 := same_kp ((s4.trans s7).trans (same_upd nl)) nhb k8
      exact ⟨gl, guildsOf t n, rfl, ⟨s8.trans (same_upd ngl), (B8.same (same_upd ngl)).le (by omega), upd_same⟩, s8.free ngl, guilds_ok (by omega) h1⟩
    obtain ⟨gl, gs, rfl, D5, ngl, gsok⟩ := hm
    have glen : gs.length ≤ 12 := gsok.l12
    clear s3 B3 s4 B4 e4
    -- dues
    refine ⟨fun σ H' => ∃ (d : Addr) (kvs : List (Str × List Int)), σ = [some (.ref a), some (.ref hb), some (.int (wr : Int)), some (.int wide), some (.ref sl), some (.int (t : Int)), some (.ref gl), none, some (.ref d), none, none, none, none, none, none, none, none, none, none] ∧ Drawn H hb gl gs 300 H' ∧ H d = none ∧ DuesAt H' d kvs ∧ kvs.map (·.1) = gs ∧ ∀ kv ∈ kvs, Amt kv.2 ∧ kv.2.length = wr, ?_, fun σ H6 hm => ?_⟩
    · refine ⟨_, rfl, gl, rfl, ⟨_, SqL.of D5.gl⟩, fun D nD => ?_⟩
      have fD : H D = none := D5.same.free nD
      have nDb := nb_of D5.box nD
      have nDg : D ≠ gl := fun z => by
        have := D5.gl
        rw [← z, nD] at this
        cases this
      have nDb' : D ∉ [hb] := fun z => nDb (List.mem_singleton.mp z)
      refine lc_list (K := K) (a := gl) (xs := gs.map V.str) (fun i H' => Drawn H hb gl gs (6 + 20 * i) H' ∧ ∃ (ps : List Addr) (kvs : List (Str × List Int)), H' D = some (.lst (ps.map V.ref)) ∧ Paired (PairAt H') ps kvs ∧ kvs.map (·.1) = gs.take i ∧ ∀ kv ∈ kvs, Amt kv.2 ∧ kv.2.length = wr)
        ⟨(D5.new (same_upd nD)).le (by omega), [], [], upd_same, .nil, rfl, fun _ h => (nomatch h)⟩ (fun i H' _ p => SqL.of p.1.gl) (fun i x H7 hx p => ?_) (fun H7 p => ?_)
      · obtain ⟨p1, ps, kvs, p2, p3, p4, p5⟩ := p
        obtain ⟨gn, hgn, rfl⟩ := map_get hx
        have hi : i < gs.length := (List.getElem?_eq_some_iff.mp hgn).1
        refine ⟨rfl, ?_⟩
        refine ⟨_, rfl, _, rfl, _, rfl, _, rfl, hb, _, wr, wide, rfl, p1.box, by omega, w1, w8, i1, i12, fun pd ms H8 am lm k8 B8 npd e8 => ⟨by show 2 ≤ sizeLine; decide, fun tp ntp => ?_⟩⟩
        have D8 := (p1.asked nhb k8 B8).new (same_upd (o := .tup [.str gn, .ref pd]) ntp)
        have kt : KTu H7 (upd H8 tp (.tup [.str gn, .ref pd])) := (k8.kt p1.box).trans (kt_new ntp)
        have eD := same_upd (o := .tup [.str gn, .ref pd]) ntp _ _ (k8 _ _ nDb' p2)
        have kt2 : KTu (upd H8 tp (.tup [.str gn, .ref pd])) (upd (upd H8 tp (.tup [.str gn, .ref pd])) D (.lst ((ps ++ [tp]).map V.ref))) := kt_put eD (fun xs z => by cases z)
        refine ⟨_, eD, ?_, ?_⟩
        · rw [List.length_map, p3.length, ← List.length_map (f := (·.1)), p4, List.length_take]
          exact small63 (by omega)
        rw [show ps.map V.ref ++ [V.ref tp] = (ps ++ [tp]).map V.ref by rw [List.map_append]; rfl]
        refine ⟨(D8.put fD nDb nDg).le (by omega), ps ++ [tp], kvs ++ [(gn, ms)], upd_same, Paired.snoc (p3.mono fun _ _ x => (x.kt kt).kt kt2) ⟨pd, kt2 _ _ upd_same, kt2 _ _ (kt_new ntp _ _ e8)⟩, ?_, fun kv hkv => ?_⟩
        · rw [List.map_append, p4, List.take_succ, hgn]
          rfl
        · rcases List.mem_append.mp hkv with z | z
          · exact p5 kv z
          · rw [List.mem_singleton.mp z]
            exact ⟨am, lm⟩
      · obtain ⟨p1, ps, kvs, p2, p3, p4, p5⟩ := p
        rw [List.length_map] at p1 p4
        rw [List.take_of_length_le (Nat.le_refl _)] at p4
        obtain ⟨qs, q1, q2⟩ := pair_split (K := K) p3
        refine ⟨D, ps, qs, rfl, SqL.of p2, q1, fun d nd => ?_⟩
        rw [merge_nd qs [] (by rw [List.nil_append, due_keys q2, p4]; exact keys_nd gsok.nd)]
        exact ⟨d, kvs, rfl, (p1.new (same_upd nd)).le (by omega), p1.same.free nd, ⟨qs, upd_same, q2.mono fun _ _ x => x.kt (kt_new nd)⟩, p4, p5⟩
    obtain ⟨d, kvs, rfl, D6, fd6, du6, ky6, am6⟩ := hm
    clear D5
    -- rows
    refine ⟨by show 0 ≤ sizeLine; decide, fun r nr => ?_⟩
    have fr : H r = none := D6.same.free nr
    have rb : r ≠ hb := nb_of D6.box nr
    have rg : r ≠ gl := fun z => by
      have := D6.gl
      rw [← z, nr] at this
      cases this
    have rd : r ≠ d := fun z => by
      obtain ⟨ps, h1, _⟩ := du6
      rw [← z, nr] at h1
      cases h1
    refine ⟨fun σ H' => ∃ (y10 y11 y12 y13 : Option V) (Rs : List (Gang × Int)), σ = [some (.ref a), some (.ref hb), some (.int (wr : Int)), some (.int wide), some (.ref sl), some (.int (t : Int)), some (.ref gl), none, some (.ref d), some (.ref r), y10, y11, y12, y13, none, none, none, none, none] ∧ Drawn H hb gl gs 300 H' ∧ DuesAt H' d kvs ∧ RowsAt H' r Rs ∧ RowsOk gs wr Rs, ?_, fun σ H7 hm => ?_⟩
    · have D7 := D6.new (same_upd (o := .lst []) nr)
      refine ⟨_, rfl, a, _, rfl, .inl (D7.same.seq hS), 1, _, rfl, ⟨by decide, by decide, by omega, by rw [List.length_map]; omega⟩, ?_⟩
      refine for_range (lo := 1) (fun i σ H' => ∃ (y10 y11 y12 y13 : Option V) (Rs : List (Gang × Int)), σ = [some (.ref a), some (.ref hb), some (.int (wr : Int)), some (.int wide), some (.ref sl), some (.int (t : Int)), some (.ref gl), none, some (.ref d), some (.ref r), y10, y11, y12, y13, none, none, none, none, none] ∧ Drawn H hb gl gs 300 H' ∧ DuesAt H' d kvs ∧ RowsAt H' r Rs ∧ RowsOk gs wr Rs)
        ⟨none, none, none, none, [], rfl, D7, du6.kt (kt_new nr) (fun o e => same_upd nr _ _ e), ⟨[], upd_same, .nil⟩, by show (0 : Nat) ≤ 60; decide, fun i R e => by simp at e⟩ (fun i σ H8 hi p => ?_) (fun σ H8 p => p)
      obtain ⟨y10, y11, y12, y13, Rs, rfl, p1, p2, p3, p4⟩ := p
      have hi' : i ≤ 63 := by
        rw [List.length_map] at hi
        omega
      refine ⟨_, rfl, _, rfl, a, ns, 1 + i, ?_, p1.same.seq hS, by omega, fun b bs nb bb => ?_⟩
      · rw [show (((1 + i : Nat)) : Int) = 1 + (i : Int) by omega]
        rfl
      have nbh : b ≠ hb := nb_of p1.box nb
      have fb : H b = none := p1.same.free nb
      have B9 : BoxAt (upd H8 b (.lst bs)) b 0 := ⟨bs, upd_same, bb⟩
      have D9 := p1.new (same_upd (o := .lst bs) nb)
      have du9 := p2.kt (kt_new (o := .lst bs) nb) (fun o e => same_upd nb _ _ e)
      have ro9 := p3.kt (kt_new (o := .lst bs) nb) (fun o e => same_upd nb _ _ e)
      have br : b ≠ r := fun z => by
        obtain ⟨as, h1, _⟩ := p3
        rw [← z, nb] at h1
        cases h1
      have bd : b ≠ d := fun z => by
        obtain ⟨as, h1, _⟩ := p2
        rw [← z, nb] at h1
        cases h1
      have br' : r ∉ [b] := fun z => br (List.mem_singleton.mp z).symm
      have bd' : d ∉ [b] := fun z => bd (List.mem_singleton.mp z).symm
      generalize upd H8 b (.lst bs) = H9 at B9 D9 du9 ro9 ⊢
      refine ⟨_, rfl, b, _, 3, rfl, B9, by decide, by decide, by decide, fun r1 H10 a1 b1 k1 B10 => ⟨rfl, .inr ⟨_, rfl, 1, _, rfl, rfl, ?_⟩⟩⟩
      obtain ⟨m, hm, hm2⟩ : ∃ m : Nat, (1 : Int) + (if decide (V.int r1 = V.int 0) = true then (1 : Int) else 0) = (m : Int) ∧ m ≤ 2 := by
        by_cases z : decide (V.int r1 = V.int 0) = true
        · rw [if_pos z]; exact ⟨2, by decide, by decide⟩
        · rw [if_neg z]; exact ⟨1, by decide, by decide⟩
      refine ⟨(m : Int), congrArg (fun z => [V.int z]) hm, by omega, by omega, ?_⟩
      rw [Int.toNat_natCast]
      have D10 := D9.other fb nbh B9 k1
      have du10 := du9.kt (k1.kt B9) (fun o e => k1 _ _ bd' e)
      have ro10 := ro9.kt (k1.kt B9) (fun o e => k1 _ _ br' e)
      refine for_range (lo := 0) (n := m) (fun j σ H' => ∃ (y12 y13 : Option V) (Rs : List (Gang × Int)), σ = [some (.ref a), some (.ref hb), some (.int (wr : Int)), some (.int wide), some (.ref sl), some (.int (t : Int)), some (.ref gl), none, some (.ref d), some (.ref r), some (.int (1 + (i : Int))), some (.ref b), y12, y13, none, none, none, none, none] ∧ Drawn H hb gl gs 300 H' ∧ DuesAt H' d kvs ∧ RowsAt H' r Rs ∧ RowsOk gs wr Rs ∧ BoxAt H' b (1 + 21 * j))
        ⟨y12, y13, Rs, rfl, D10, du10, ro10, p4, B10.le (by omega)⟩ (fun j σ H11 hj p => ?_) (fun σ H11 p => ?_)
      · obtain ⟨y12, y13, Rs, rfl, p1, p2, ⟨as, p3, p3'⟩, p4, p5⟩ := p
        have las : as.length = Rs.length := p3'.length
        refine ⟨_, rfl, r, _, rfl, .inl (SqL.of p3), _, 60, rfl, rfl, _, rfl, ite2 (fun e => ?_) (fun e => ?_)⟩
        · have e1 := of_decide_eq_true e
          rw [List.length_map] at e1
          have hlt : Rs.length < 60 := by omega
          have hd6 : as.length / 6 < 10 := by omega
          have gc : atI ten.cps.toList (((as.map V.ref).length : Int) / 6) = some (ten.cps.toList.getD (as.length / 6) 0) := by
            have l10 : ten.cps.toList.length = 10 := by decide +kernel
            rw [List.length_map, show ((as.length : Int) / 6) = ((as.length / 6 : Nat) : Int) from rfl]
            refine atI_nat ?_
            rw [List.getD_eq_getElem?_getD, List.getElem?_eq_getElem (by omega)]
            rfl
          refine ⟨_, rfl, r, _, rfl, .inl (SqL.of p3), _, 6, rfl, rfl, ⟨by decide, by decide⟩, _, _, _, rfl, rfl, by decide +kernel, gc, ?_⟩
          refine ⟨_, rfl, r, _, rfl, .inl (SqL.of p3), _, 6, rfl, rfl, (by show (0 : Int) < 6; decide), 1, _, rfl, rfl, _, _, rfl, rfl, mul_okB _ (by omega) (by omega), ?_⟩
          have en : Txt.mul ⟨#[ten.cps.toList.getD (as.length / 6) 0]⟩ (1 + ((as.map V.ref).length : Int) % 6) = rowName Rs.length := by
            rw [List.length_map, las]
            rfl
          rw [en]
          refine ⟨_, rfl, .inl ⟨rfl, _, SqL.of p3⟩, _, rfl, _, rfl, _, rfl, _, rfl, _, rfl, b, gl, _, rowName Rs.length, gs, wr, wide, rfl, p5, by omega, p1.gl, gsok.l1, gsok.l12, w1, w8, i1, i12, fun g G H12 gok gnm k12 B12 ng eg => ?_⟩
          refine ⟨_, rfl, b, _, 60, rfl, B12, by decide, by decide, by omega, fun r2 H13 a2 b2 k13 B13 => ⟨100, r2, rfl, rfl, .inl ⟨by decide, by decide⟩, ?_⟩⟩
          have k14 : Kp [b] H11 H13 := k12.trans k13
          have t14 : KTu H11 H13 := (k12.kt p5).trans (k13.kt B12)
          have e13 := k14 _ _ br' p3
          refine ⟨_, rfl, r, _, rfl, .inl (SqL.of e13), _, _, rfl, rfl, by show 2 ≤ sizeLine; decide, fun tp ntp => ?_⟩
          rw [List.length_map, las]
          have tT : KTu H13 (upd H13 tp (.tup [.ref g, .int (100 * r2 + (Rs.length : Int))])) := kt_new ntp
          have e15 := same_upd (o := .tup [.ref g, .int (100 * r2 + (Rs.length : Int))]) ntp _ _ e13
          have D15 := (p1.other fb nbh p5 k14).new (same_upd (o := .tup [.ref g, .int (100 * r2 + (Rs.length : Int))]) ntp)
          have du15 := (p2.kt t14 (fun o e => k14 _ _ bd' e)).kt tT (fun o e => same_upd ntp _ _ e)
          have B15 := B13.same (same_upd (o := .tup [.ref g, .int (100 * r2 + (Rs.length : Int))]) ntp)
          have row : RowAt (upd H13 tp (.tup [.ref g, .int (100 * r2 + (Rs.length : Int))])) tp (G, 100 * r2 + (Rs.length : Int)) := ⟨g, upd_same, (eg.kt (k13.kt B12)).kt tT⟩
          have prs := p3'.mono fun _ _ x => (RowAt.kt t14 x).kt tT
          generalize upd H13 tp (.tup [.ref g, .int (100 * r2 + (Rs.length : Int))]) = H15 at e15 D15 du15 B15 row prs ⊢
          have tP : KTu H15 (upd H15 r (.lst ((as ++ [tp]).map V.ref))) := kt_put e15 (fun xs z => by cases z)
          refine ⟨r, _, _, rfl, rfl, e15, ?_, ?_⟩
          · rw [List.length_map, las]
            exact small63 (by omega)
          rw [show as.map V.ref ++ [V.ref tp] = (as ++ [tp]).map V.ref by rw [List.map_append]; rfl]
          refine ⟨_, _, Rs ++ [(G, 100 * r2 + (Rs.length : Int))], rfl, D15.put fr rb rg, du15.kt tP (fun o e => by rw [upd_ne rd.symm]; exact e), ⟨as ++ [tp], upd_same, Paired.snoc (prs.mono fun _ _ x => x.kt tP) (row.kt tP)⟩, p4.snoc hlt ⟨gok, gnm, by show 0 ≤ 100 * r2 + _; omega, by show (100 * r2 + _) % 100 = _; omega, by show 100 * r2 + _ < 6100; omega⟩, ?_⟩
          obtain ⟨xs, g1, g2⟩ := B15.le (c' := 1 + 21 * ((j + 1 : Nat) : Int)) (by omega)
          exact ⟨xs, by rw [upd_ne br]; exact g1, g2⟩
        · exact ⟨_, _, Rs, rfl, p1, p2, ⟨as, p3, p3'⟩, p4, p5.le (by omega)⟩
      · obtain ⟨y12, y13, Rs, rfl, p1, p2, p3, p4, p5⟩ := p
        exact ⟨_, _, y12, y13, Rs, rfl, p1, p2, p3, p4⟩
    obtain ⟨y10, y11, y12, y13, Rs, rfl, D7, du7, ro7, rk7⟩ := hm
    clear D6 du6 nr
    have dhb : d ∉ [hb] := fun z => by
      obtain ⟨ps, h1, _⟩ := du7
      obtain ⟨xs, h2, _⟩ := D7.box
      rw [List.mem_singleton.mp z, h2] at h1
      cases h1
    have rhb : r ∉ [hb] := fun z => rb (List.mem_singleton.mp z)
    have dgl : d ≠ gl := fun z => by
      obtain ⟨ps, h1, _⟩ := du7
      rw [z, D7.gl] at h1
      cases h1
    -- the gang
    refine ⟨fun σ H' => ∃ (g : Addr) (G : Gang), σ = [some (.ref a), some (.ref hb), some (.int (wr : Int)), some (.int wide), some (.ref sl), some (.int (t : Int)), some (.ref gl), none, some (.ref d), some (.ref r), y10, y11, y12, y13, some (.ref g), none, none, none, none] ∧ Drawn H hb gl gs 350 H' ∧ DuesAt H' d kvs ∧ RowsAt H' r Rs ∧ GangAt H' g G ∧ GangOk gs wr G ∧ G.name ∈ (["z", "aaaaaaa", "zed"] : List Str), ?_, fun σ H8 hm => ?_⟩
    · refine ⟨_, rfl, by show 3 ≤ sizeLine; decide, fun l nl => ⟨_, rfl, hb, _, 3, rfl, D7.box.same (same_upd nl), by decide, by decide, by decide, fun r1 H9 a1 b1 k9 B9 => ?_⟩⟩
      have el := k9 _ _ (box_new D7.box nl) upd_same
      obtain ⟨nm, hn, h1⟩ : ∃ nm : Str, atI [V.str "z", .str "aaaaaaa", .str "zed"] r1 = some (.str nm) ∧ nm ∈ (["z", "aaaaaaa", "zed"] : List Str) := by
        have h3 : r1 = 0 ∨ r1 = 1 ∨ r1 = 2 := by omega
        rcases h3 with z | z | z
        · rw [z]; exact ⟨_, rfl, by decide⟩
        · rw [z]; exact ⟨_, rfl, by decide⟩
        · rw [z]; exact ⟨_, rfl, by decide⟩
      have D9 := (D7.new (same_upd nl)).asked nhb k9 B9
      have t9 : KTu H7 H9 := (kt_new nl).trans (k9.kt (D7.box.same (same_upd nl)))
      have du9 := du7.kt t9 (fun o e => k9 _ _ dhb (same_upd nl _ _ e))
      have ro9 := ro7.kt t9 (fun o e => k9 _ _ rhb (same_upd nl _ _ e))
      refine ⟨l, _, r1, .str nm, rfl, rfl, SqL.of el, hn, _, rfl, _, rfl, _, rfl, hb, gl, _, nm, gs, wr, wide, rfl, B9, by decide, D9.gl, gsok.l1, gsok.l12, w1, w8, i1, i12, fun g G H10 gok gnm k10 B10 ng eg => ?_⟩
      exact ⟨g, G, rfl, (D9.asked nhb k10 B10).le (by omega), du9.kt (k10.kt B9) (fun o e => k10 _ _ dhb e), ro9.kt (k10.kt B9) (fun o e => k10 _ _ rhb e), eg, gok, by rw [gnm]; exact h1⟩
    obtain ⟨g, G, rfl, D8, du8, ro8, eg8, gok, gnm⟩ := hm
    clear D7 du7 ro7
    -- dues of just what some bear
    refine ⟨fun σ H' => ∃ (y7 y15 y16 : Option V) (kvs : List (Str × List Int)), σ = [some (.ref a), some (.ref hb), some (.int (wr : Int)), some (.int wide), some (.ref sl), some (.int (t : Int)), some (.ref gl), y7, some (.ref d), some (.ref r), y10, y11, y12, y13, some (.ref g), y15, y16, none, none] ∧ Drawn H hb gl gs 400 H' ∧ DuesAt H' d kvs ∧ RowsAt H' r Rs ∧ GangAt H' g G ∧ kvs.map (·.1) = gs ∧ ∀ kv ∈ kvs, Amt kv.2 ∧ kv.2.length = wr, ?_, fun σ H9 hm => ?_⟩
    · refine ⟨_, rfl, gl, rfl, ⟨_, SqL.of D8.gl⟩, ?_⟩
      refine for_list (xs := gs.map V.str) (fun i σ H' => ∃ (y7 y15 y16 : Option V) (kvs : List (Str × List Int)), σ = [some (.ref a), some (.ref hb), some (.int (wr : Int)), some (.int wide), some (.ref sl), some (.int (t : Int)), some (.ref gl), y7, some (.ref d), some (.ref r), y10, y11, y12, y13, some (.ref g), y15, y16, none, none] ∧ Drawn H hb gl gs (350 + 2 * i) H' ∧ DuesAt H' d kvs ∧ RowsAt H' r Rs ∧ GangAt H' g G ∧ kvs.map (·.1) = gs ∧ ∀ kv ∈ kvs, Amt kv.2 ∧ kv.2.length = wr)
        ⟨none, none, none, kvs, rfl, D8.le (by omega), du8, ro8, eg8, ky6, am6⟩ (fun i σ H' _ p => ?_) (fun i x σ H9 hx p => ?_) (fun σ H9 p => ?_)
      · obtain ⟨_, _, _, _, _, p1, _⟩ := p
        exact SqL.of p1.gl
      · obtain ⟨y7, y15, y16, kvs, rfl, p1, p2, ⟨as, p3, p3'⟩, p4, p5, p6⟩ := p
        obtain ⟨gn, hgn, rfl⟩ := map_get hx
        have hi : i < gs.length := (List.getElem?_eq_some_iff.mp hgn).1
        have las : as.length = Rs.length := p3'.length
        have lR : Rs.length ≤ 60 := rk7.1
        -- few
        refine ⟨_, rfl, r, rfl, ⟨_, SqL.of p3⟩, fun D nD => ?_⟩
        refine lc_list (K := K) (a := r) (xs := as.map V.ref) (fun j H' => Same H9 H' ∧ ∃ ds : List Addr, H' D = some (.lst (ds.map V.ref)) ∧ GangsAt gs wr H' ds ∧ ds.length ≤ j)
          ⟨same_upd nD, [], upd_same, fun _ h => (nomatch h), Nat.le_refl _⟩ (fun j H' _ p => SqL.of (p.1 _ _ p3)) (fun j x H10 hx p => ?_) (fun H10 p => ?_)
        · obtain ⟨q1, ds, q2, q3, q4⟩ := p
          obtain ⟨ra, hra, rfl⟩ := map_get hx
          have hj : j < as.length := (List.getElem?_eq_some_iff.mp hra).1
          obtain ⟨R, hR, ga, er, wa, eg, ew⟩ := paired_get p3' hra
          have RO := rk7.2 j R hR
          refine ⟨rfl, ?_⟩
          refine ⟨_, rfl, ra, _, 0, .ref ga, rfl, rfl, SqT.of (q1 _ _ er), rfl, ga, _, 1, .str R.1.guild, rfl, rfl, SqT.of (q1 _ _ eg), rfl, _, rfl, rfl, _, rfl, ite2 (fun e => ?_) (fun e => ?_)⟩
          · refine ⟨_, rfl, ra, _, 0, .ref ga, rfl, rfl, SqT.of (q1 _ _ er), rfl, _, q2, ?_, same_put q1 nD, ds ++ [ga], ?_, fun x hx => ?_, ?_⟩
            · rw [List.length_map]
              exact small63 (by omega)
            · rw [upd_same, List.map_append]
              rfl
            · have kt : KTu H10 (upd H10 D (.lst (ds.map V.ref ++ [V.ref ga]))) := kt_put q2 (fun xs z => by cases z)
              rcases List.mem_append.mp hx with z | z
              · exact q3.kt kt x z
              · rw [List.mem_singleton.mp z]
                exact ⟨R.1, ⟨wa, kt _ _ (q1 _ _ eg), kt _ _ (q1 _ _ ew)⟩, RO.ok⟩
            · rw [List.length_append]
              show ds.length + 1 ≤ j + 1
              omega
          · exact ⟨q1, ds, q2, q3, by omega⟩
        obtain ⟨q1, ds, q2, q3, q4⟩ := p
        rw [List.length_map] at q4
        have D10 := p1.new q1
        have Db : D ∉ [hb] := box_new p1.box nD
        refine ⟨_, rfl, hb, _, 6, rfl, D10.box, by decide, by decide, by omega, fun r1 H11 a1 b1 k11 B11 => ?_⟩
        obtain ⟨m, rfl⟩ : ∃ m : Nat, r1 = (m : Int) := ⟨r1.toNat, by omega⟩
        have D11 := D10.asked nhb k11 B11
        have t11 : KTu H9 H11 := (Same.kt q1).trans (k11.kt D10.box)
        have g11 := q3.kt (k11.kt D10.box)
        have e11 := k11 _ _ Db q2
        have kd11 : ∀ o, H9 d = some o → H11 d = some o := fun o e => k11 _ _ dhb (q1 _ _ e)
        have kr11 : ∀ o, H9 r = some o → H11 r = some o := fun o e => k11 _ _ rhb (q1 _ _ e)
        refine ⟨(m : Int), rfl, D, _, rfl, SqL.of e11, fun p1' np1 => ?_⟩
        rw [cut_take, ← List.map_take]
        obtain ⟨wg, egw, _⟩ := (p4.kt t11)
        refine ⟨_, rfl, by show 1 ≤ sizeLine; decide, fun l nl => ?_⟩
        have eg3 := same_upd (o := .lst [.ref g]) nl _ _ (same_upd (o := .lst ((ds.take m).map V.ref)) np1 _ _ egw)
        refine ⟨_, rfl, _, rfl, g, _, 1, .str G.guild, rfl, rfl, SqT.of eg3, rfl, rfl, .inr ⟨_, rfl, ?_⟩⟩
        obtain ⟨u, hu, hu1⟩ : ∃ u : Nat, (if decide (V.str gn = V.str G.guild) = true then (1 : Int) else 0) = (u : Int) ∧ u ≤ 1 := by
          by_cases z : decide (V.str gn = V.str G.guild) = true
          · rw [if_pos z]; exact ⟨1, rfl, by decide⟩
          · rw [if_neg z]; exact ⟨0, rfl, by decide⟩
        refine ⟨(u : Int), congrArg V.int hu, l, _, rfl, SqL.of upd_same, fun p2' np2 => ?_⟩
        rw [cut_take, show ([V.ref g] : List V).take u = ([g].take u).map V.ref by rw [List.map_take]; rfl]
        refine ⟨p1', p2', _, _, rfl, rfl, same_upd np2 _ _ (same_upd nl _ _ upd_same), upd_same, ?_, fun fw nfw => ?_⟩
        · rw [List.length_map, List.length_map, List.length_take, List.length_take]
          exact Nat.le_of_lt (small63 (by show min m ds.length + min u 1 ≤ 200; omega))
        rw [← List.map_append]
        have s12 := (((same_upd (o := .lst ((ds.take m).map V.ref)) np1).trans (same_upd (o := .lst [.ref g]) nl)).trans (same_upd (o := .lst (([g].take u).map V.ref)) np2)).trans (same_upd (o := .lst ((ds.take m ++ [g].take u).map V.ref)) nfw)
        have D12 := D11.new s12
        have t12 : KTu H9 (upd (upd (upd (upd H11 p1' (.lst ((ds.take m).map V.ref))) l (.lst [.ref g])) p2' (.lst (([g].take u).map V.ref))) fw (.lst ((ds.take m ++ [g].take u).map V.ref))) := t11.trans (Same.kt s12)
        have kd12 := fun o e => s12 _ _ (kd11 o e)
        have kr12 := fun o e => s12 _ _ (kr11 o e)
        have e12 : upd (upd (upd (upd H11 p1' (.lst ((ds.take m).map V.ref))) l (.lst [.ref g])) p2' (.lst (([g].take u).map V.ref))) fw (.lst ((ds.take m ++ [g].take u).map V.ref)) fw = some (.lst ((ds.take m ++ [g].take u).map V.ref)) := upd_same
        have f12 : GangsAt gs wr (upd (upd (upd (upd H11 p1' (.lst ((ds.take m).map V.ref))) l (.lst [.ref g])) p2' (.lst (([g].take u).map V.ref))) fw (.lst ((ds.take m ++ [g].take u).map V.ref))) (ds.take m ++ [g].take u) := fun x hx => by
          rcases List.mem_append.mp hx with z | z
          · exact g11.kt (Same.kt s12) x (List.mem_of_mem_take z)
          · rw [List.mem_singleton.mp (List.mem_of_mem_take z)]
            exact ⟨G, p4.kt t12, gok⟩
        have l12 : (ds.take m ++ [g].take u).length ≤ 100 := by
          rw [List.length_append, List.length_take, List.length_take]
          show min m ds.length + min u 1 ≤ 100
          omega
        generalize upd (upd (upd (upd H11 p1' (.lst ((ds.take m).map V.ref))) l (.lst [.ref g])) p2' (.lst (([g].take u).map V.ref))) fw (.lst ((ds.take m ++ [g].take u).map V.ref)) = H12 at D12 t12 kd12 kr12 e12 f12 ⊢
        generalize ds.take m ++ [g].take u = fs at e12 f12 l12
        -- borne
        refine ⟨_, rfl, (wr : Int), rfl, by omega, by omega, fun D2 nD2 => ?_⟩
        rw [Int.toNat_natCast]
        refine lc_range (lo := 0) (n := wr) (fun j H' => Same H12 H' ∧ ∃ bs : List Int, H' D2 = some (.lst (bs.map V.int)) ∧ bs.length = j ∧ ∀ n ∈ bs, 0 ≤ n)
          ⟨same_upd nD2, [], upd_same, rfl, fun _ h => (nomatch h)⟩ (fun j H13 hj p => ?_) (fun H13 p => ?_)
        · obtain ⟨z1, bs, z2, z3, z4⟩ := p
          refine ⟨rfl, ?_⟩
          refine ⟨_, rfl, fw, rfl, ⟨_, SqL.of (z1 _ _ e12)⟩, fun D3 nD3 => ?_⟩
          refine lc_list (K := K) (a := fw) (xs := fs.map V.ref) (fun v H' => Same H13 H' ∧ ∃ cs : List Int, H' D3 = some (.lst (cs.map V.int)) ∧ cs.length = v ∧ ∀ n ∈ cs, 0 ≤ n)
            ⟨same_upd nD3, [], upd_same, rfl, fun _ h => (nomatch h)⟩ (fun v H' _ p => SqL.of (p.1 _ _ (z1 _ _ e12))) (fun v x H14 hx p => ?_) (fun H14 p => ?_)
          · obtain ⟨v1, cs, v2, v3, v4⟩ := p
            obtain ⟨o, ho, rfl⟩ := map_get hx
            have hv : v < fs.length := (List.getElem?_eq_some_iff.mp ho).1
            obtain ⟨O, ⟨ow, eo, eow⟩, Ook⟩ := f12 o (List.mem_of_getElem? ho)
            have eo' := v1 _ _ (z1 _ _ eo)
            have eow' := v1 _ _ (z1 _ _ eow)
            have hjw : j < O.want.length := by rw [Ook.wlen]; exact hj
            have an := Ook.amt _ (List.getElem_mem hjw)
            refine ⟨rfl, ?_⟩
            refine ⟨_, rfl, o, _, 3, .int O.many, rfl, rfl, SqT.of eo', rfl, _, rfl, o, _, 4, .ref ow, rfl, rfl, SqT.of eo', rfl, _, rfl, ow, _, _, .int O.want[j], rfl, rfl, SqT.of eow', at_ints (List.getElem?_eq_getElem hjw), O.many, O.want[j], rfl, rfl, .inl ⟨by have := Ook.m1; omega, by have := Ook.m60; omega⟩, ?_⟩
            refine ⟨_, v2, ?_, same_put v1 nD3, cs ++ [O.many * O.want[j]], ?_, ?_, fun n hn => ?_⟩
            · rw [List.length_map, v3]
              exact small63 (by omega)
            · rw [upd_same, List.map_append]
              rfl
            · rw [List.length_append, v3]
              rfl
            · rcases List.mem_append.mp hn with z | z
              · exact v4 n z
              · rw [List.mem_singleton.mp z]
                exact Int.mul_nonneg (by have := Ook.m1; omega) an.1
          · obtain ⟨v1, cs, v2, v3, v4⟩ := p
            have n3 : D2 ≠ D3 := fun z => by
              rw [← z, z2] at nD3
              cases nD3
            refine ⟨D3, cs, rfl, SqL.of v2, _, v1 _ _ z2, ?_, same_put (z1.trans v1) nD2, bs ++ [cs.sum], ?_, ?_, fun n hn => ?_⟩
            · rw [List.length_map, z3]
              exact small63 (by omega)
            · rw [upd_same, List.map_append]
              rfl
            · rw [List.length_append, z3]
              rfl
            · rcases List.mem_append.mp hn with z | z
              · exact z4 n z
              · rw [List.mem_singleton.mp z]
                exact sum_nn v4
        obtain ⟨z1, bs, z2, z3, z4⟩ := p
        refine ⟨D2, _, rfl, .inl ⟨SqL.of z2, fun pb npb => ?_⟩⟩
        have s14 := z1.trans (same_upd (o := .tup (bs.map V.int)) npb)
        have D14 := D12.new s14
        have t14 := t12.trans (Same.kt s14)
        have kd14 := fun o e => s14 _ _ (kd12 o e)
        have kr14 := fun o e => s14 _ _ (kr12 o e)
        have e14 : upd H13 pb (.tup (bs.map V.int)) pb = some (.tup (bs.map V.int)) := upd_same
        generalize upd H13 pb (.tup (bs.map V.int)) = H14 at D14 t14 kd14 kr14 e14 ⊢
        refine ⟨_, rfl, hb, _, 3, rfl, D14.box, by decide, by decide, by omega, fun r2 H15 a2 b2 k15 B15 => ⟨rfl, _, rfl, ?_⟩⟩
        have D15 := (D14.asked nhb k15 B15).le (c' := 350 + 2 * ((i + 1 : Nat) : Int)) (by omega)
        have t15 := t14.trans (k15.kt D14.box)
        have kd15 := fun o e => k15 _ _ dhb (kd14 o e)
        have kr15 := fun o e => k15 _ _ rhb (kr14 o e)
        have e15 := k15.kt D14.box _ _ e14
        have du15 := p2.kt t15 kd15
        have ro15 : RowsAt H15 r Rs := RowsAt.kt t15 kr15 ⟨as, p3, p3'⟩
        have stay : ∃ (y7 y15 y16 : Option V) (kvs : List (Str × List Int)), ([some (.ref a), some (.ref hb), some (.int (wr : Int)), some (.int wide), some (.ref sl), some (.int (t : Int)), some (.ref gl), some (.str gn), some (.ref d), some (.ref r), y10, y11, y12, y13, some (.ref g), some (.ref fw), some (.ref pb), none, none] : L2.St) = [some (.ref a), some (.ref hb), some (.int (wr : Int)), some (.int wide), some (.ref sl), some (.int (t : Int)), some (.ref gl), y7, some (.ref d), some (.ref r), y10, y11, y12, y13, some (.ref g), y15, y16, none, none] ∧ Drawn H hb gl gs (350 + 2 * ((i + 1 : Nat) : Int)) H15 ∧ DuesAt H15 d kvs ∧ RowsAt H15 r Rs ∧ GangAt H15 g G ∧ kvs.map (·.1) = gs ∧ ∀ kv ∈ kvs, Amt kv.2 ∧ kv.2.length = wr :=
          ⟨_, _, _, kvs, rfl, D15, du15, ro15, p4.kt t15, p5, p6⟩
        refine ite2 (fun e => ?_) (fun e => iteF stay)
        refine ⟨_, rfl, pb, bs, rfl, SqT.of e15, by omega, fun mx hmx hall => ⟨10, 12, rfl, rfl, ⟨by decide, by decide, by decide⟩, mx, _, rfl, rfl, _, rfl, ite2 (fun e => ?_) (fun e => stay)⟩⟩
        have e2 : mx ≤ 1000000000000 := of_decide_eq_true e
        obtain ⟨ps, dp1, dp2⟩ := du15
        have tD : ∀ o, KTu H15 (upd H15 d o) := fun o => kt_put dp1 (fun xs z => by cases z)
        refine ⟨_, rfl, _, rfl, _, rfl, d, _, rfl, DPut.k (k := Sum.inr gn) dp1 ?_, ?_⟩
        · rw [dp2.length, ← List.length_map (f := (·.1)), p5]
          exact small63 (by omega)
        have ep : putK ps (Sum.inr gn) (V.ref pb) = ps.map fun kv => if kv.1 = Sum.inr gn then (kv.1, V.ref pb) else kv := by
          unfold putK
          rw [if_pos (due_any dp2 (by rw [p5]; exact List.mem_of_getElem? hgn))]
        rw [ep]
        refine ⟨_, _, _, duePut kvs gn bs, rfl, D15.put fd6 (fun z => dhb (by rw [z]; exact List.mem_singleton.mpr rfl)) dgl, ⟨_, upd_same, (due_put e15 dp2).mono fun _ _ x => x.kt (tD _)⟩, ro15.kt (tD _) (fun o e => by rw [upd_ne rd]; exact e), (p4.kt t15).kt (tD _), by rw [duePut_keys]; exact p5, fun kv hkv => ?_⟩
        obtain ⟨kv0, h1, h2⟩ := List.mem_map.mp hkv
        have h2' : (if kv0.1 = gn then (kv0.1, bs) else kv0) = kv := h2
        by_cases z : kv0.1 = gn
        · rw [if_pos z] at h2'
          rw [← h2']
          exact ⟨fun n hn => ⟨z4 n hn, Int.le_trans (hall n hn) e2⟩, z3⟩
        · rw [if_neg z] at h2'
          rw [← h2']
          exact p6 kv0 h1
      · obtain ⟨y7, y15, y16, kvs, rfl, p1, p2, p3, p4, p5, p6⟩ := p
        rw [List.length_map] at p1
        exact ⟨y7, y15, y16, kvs, rfl, p1.le (by omega), p2, p3, p4, p5, p6⟩
    obtain ⟨y7, y15, y16, kvs9, rfl, D9, du9, ro9, eg9, ky9, am9⟩ := hm
    refine ⟨_, rfl, _, rfl, _, rfl, by show 3 ≤ sizeLine; decide, fun tp ntp => ?_⟩
    have tk : KTu H9 (upd H9 tp (.tup [.ref d, .ref r, .ref g])) := kt_new ntp
    exact q tp d r g gs wr kvs9 Rs G _ (D9.same.trans (same_upd ntp)) (D9.same.free ntp) upd_same fd6 fr ⟨gsok, w1, w8, du9.kt tk (fun o e => same_upd ntp _ _ e), ky9, am9, ro9.kt tk (fun o e => same_upd ntp _ _ e), rk7, eg9.kt tk, gok, gnm⟩
end
end My

namespace My
open PySem PySem.Spec PyProof.Rows L2 GX GxR
/-! the same, as the gangs' laws say it -/
def Lf (x y : V) : Prop := (∃ b, x = .bl b ∧ y = .bl b) ∨ (∃ i, x = .int i ∧ y = .int i) ∨ (∃ z, x = .str z ∧ y = .str z)
def Sm (H : Hp) : Nat → V → V → Prop
  | 0, x, y => Lf x y
  | n + 1, x, y => Lf x y ∨ ∃ (a b : Addr) (xs ys : List V), x = .ref a ∧ y = .ref b ∧ ((H a = some (.lst xs) ∧ H b = some (.lst ys)) ∨ (H a = some (.tup xs) ∧ H b = some (.tup ys))) ∧ xs.length = ys.length ∧ xs.length < 100000 ∧
      ∀ (i : Nat) (x y : V), xs[i]? = some x → ys[i]? = some y → Sm H n x y
theorem Sm.leaf {H : Hp} {x y : V} (h : Lf x y) : ∀ n, Sm H n x y
  | 0 => h
  | _ + 1 => .inl h
theorem Sm.same {H H' : Hp} (e : Same H H') : ∀ (n : Nat) (x y : V), Sm H n x y → Sm H' n x y
  | 0, _, _, h => h
  | n + 1, x, y, h => by
    rcases h with h | ⟨a, b, xs, ys, e1, e2, h, hl, hl2, k⟩
    · exact .inl h
    · refine .inr ⟨a, b, xs, ys, e1, e2, ?_, hl, hl2, fun i x y h1 h2 => Sm.same e n x y (k i x y h1 h2)⟩
      rcases h with ⟨h1, h2⟩ | ⟨h1, h2⟩
      · exact .inl ⟨e _ _ h1, e _ _ h2⟩
      · exact .inr ⟨e _ _ h1, e _ _ h2⟩
theorem sm_int {H : Hp} {n : Nat} (i : Int) : Sm H n (.int i) (.int i) := Sm.leaf (.inr (.inl ⟨i, rfl, rfl⟩)) n
theorem sm_str {H : Hp} {n : Nat} (z : Str) : Sm H n (.str z) (.str z) := Sm.leaf (.inr (.inr ⟨z, rfl, rfl⟩)) n
theorem sm_bl {H : Hp} {n : Nat} (b : Bool) : Sm H n (.bl b) (.bl b) := Sm.leaf (.inl ⟨b, rfl, rfl⟩) n
theorem sm_lst {H : Hp} {n : Nat} {p q : Addr} {xs ys : List V} (h1 : H p = some (.lst xs)) (h2 : H q = some (.lst ys)) (hs : xs.length < 100000) (k : Prs (Sm H n) xs ys) : Sm H (n + 1) (.ref p) (.ref q) :=
  .inr ⟨p, q, xs, ys, rfl, rfl, .inl ⟨h1, h2⟩, k.len, hs, k.get⟩
theorem sm_tup {H : Hp} {n : Nat} {p q : Addr} {xs ys : List V} (h1 : H p = some (.tup xs)) (h2 : H q = some (.tup ys)) (hs : xs.length < 100000) (k : Prs (Sm H n) xs ys) : Sm H (n + 1) (.ref p) (.ref q) :=
  .inr ⟨p, q, xs, ys, rfl, rfl, .inr ⟨h1, h2⟩, k.len, hs, k.get⟩
theorem sm_ints {H : Hp} {n : Nat} {p q : Addr} {ns : List Int} (h1 : H p = some (.tup (ns.map V.int))) (h2 : H q = some (.tup (ns.map V.int))) (hs : ns.length < 100000) : Sm H (n + 1) (.ref p) (.ref q) :=
  sm_tup h1 h2 (by rw [List.length_map]; exact hs) (Prs.ints (fun i => sm_int i) ns)
def spSame (n : Nat) : Sp := fun vs H Q _ => ∃ x y : V, vs = [x, y] ∧ Sm H n x y ∧ ∀ H', Same H H' → Q (.bl true) H'
theorem prs_strs {R : V → V → Prop} (r : ∀ z, R (.str z) (.str z)) : ∀ zs : List Str, Prs R (zs.map V.str) (zs.map V.str)
  | [] => .nil
  | z :: zs => .cons (r z) (prs_strs r zs)
/-- a gang is the same as another of the same letters -/
theorem sm_gang {H : Hp} {n : Nat} {g g' : Addr} {G : Gang} (h : GangAt H g G) (h' : GangAt H g' G) (hl : G.want.length < 100000) : Sm H (n + 2) (.ref g) (.ref g') := by
  obtain ⟨w, h1, h2⟩ := h
  obtain ⟨w', h1', h2'⟩ := h'
  exact sm_tup h1 h1' (by show 7 < 100000; decide) (.cons (sm_str _) (.cons (sm_str _) (.cons (sm_int _) (.cons (sm_int _) (.cons (sm_ints h2 h2' hl) (.cons (sm_str _) (.cons (sm_int _) .nil)))))))
end My

namespace My
open PySem PySem.Spec PyProof.Rows L2 GX GxR
def spTimes (K : PySem.W.Frag) (T : Addr) : Sp := fun vs H Q _ => ∃ (a : Addr) (n : Int) (xs : List Int), vs = [.ref a, .int n] ∧ SqT K H a (xs.map V.int) ∧ xs.length ≤ 1000 ∧ 0 ≤ n ∧ n ≤ 1000000000 ∧ TabG H T ∧
  ∀ p H', TabG H' T → Kp [T] H H' → H p = none → H' p = some (.tup ((xs.map (· * n)).map V.int)) → Q (.ref p) H'
/-- what all tasks of a gang want -/
def Gang.whole (G : Gang) : List Int := G.want.map (· * G.many)
def spWhole (T : Addr) : Sp := fun vs H Q _ => ∃ (g : Addr) (G : Gang), vs = [.ref g] ∧ GangAt H g G ∧ G.want.length ≤ 1000 ∧ 0 ≤ G.many ∧ G.many ≤ 1000000000 ∧ TabG H T ∧
  ∀ p H', TabG H' T → Kp [T] H H' → H p = none → H' p = some (.tup (G.whole.map V.int)) → Q (.ref p) H'
def spTimesS (K : PySem.W.Frag) : Sp := fun vs H Q _ => ∃ (a : Addr) (n : Int) (xs : List Int), vs = [.ref a, .int n] ∧ SqT K H a (xs.map V.int) ∧ xs.length ≤ 1000 ∧ 0 ≤ n ∧ n ≤ 1000000000 ∧
  ∀ p H', Same H H' → H p = none → H' p = some (.tup ((xs.map (· * n)).map V.int)) → Q (.ref p) H'
def spWholeS : Sp := fun vs H Q _ => ∃ (g : Addr) (G : Gang), vs = [.ref g] ∧ GangAt H g G ∧ G.want.length ≤ 1000 ∧ 0 ≤ G.many ∧ G.many ≤ 1000000000 ∧
  ∀ p H', Same H H' → H p = none → H' p = some (.tup (G.whole.map V.int)) → Q (.ref p) H'
theorem whole_tab (T : Addr) (vs : List V) (H : Hp) (Q : VK) (E : XK) (h : spWhole T vs H Q E) : spWholeS vs H Q E := by
  obtain ⟨g, G, e, h1, h2, h3, h4, hT, q⟩ := h
  exact ⟨g, G, e, h1, h2, h3, h4, fun p H' s n h => q p H' (TabG.same s hT) (Same.kp _ s) n h⟩
theorem kt_tab {T : Addr} {H H' : Hp} (t : TabG H T) (k : Kp [T] H H') : KTu H H' := fun x xs h => k x _ (fun z => by
  obtain ⟨ps, h1, _⟩ := t
  rw [List.mem_singleton.mp z, h1] at h
  cases h) h
theorem tab_lst {T p : Addr} {H H' : Hp} {xs : List V} (t : TabG H T) (k : Kp [T] H H') (h : H p = some (.lst xs)) : H' p = some (.lst xs) := k _ _ (fun z => by
  obtain ⟨ps, h1, _⟩ := t
  rw [List.mem_singleton.mp z, h1] at h
  cases h) h
theorem rep_sum (n : Int) : ∀ v : Nat, (List.replicate v n).sum = n * (v : Int)
  | 0 => by simp
  | v + 1 => by
    rw [List.replicate_succ, List.sum_cons, rep_sum n v, Int.natCast_add, Int.mul_add]
    show n + n * v = n * v + n * 1
    rw [Int.mul_one, Int.add_comm]
def spLaw (K : PySem.W.Frag) (Ts : List Addr) : Sp := fun vs H Q _ => ∃ (a : Addr) (ns : List Int), vs = [.ref a] ∧ SqL K H a (ns.map V.int) ∧ ns.length ≤ 63 ∧ (∀ T ∈ Ts, TabG H T) ∧ ∀ H', Q (.bl true) H'
theorem amt_len {gs : List Str} {wr : Nat} {G : Gang} (h : GangOk gs wr G) (w8 : wr ≤ 8) : G.want.length ≤ 8 := by rw [h.wlen]; exact w8
end My

namespace My
open PySem PySem.W PySem.Spec PyProof.Rows L2
section
variable {X : Cx} {pins : List (Addr × Obj)} {σ : L2.St} {H : Hp} {s : Shared}
/-- an own def that a built-in's built-in calls -/
theorem run_in2 {Q : VK} {us : List Value} {vs : List V} {k : Nat} {f : Addr} {fd : FuncData} {ps : List Str} {sp : Sp} (F : FnOk X.prog X.w X.K X.mg X.base CX0 k f fd ps sp) (hr : Room (k + 2) X.A) (hb : L2.Binds X.K fd ps []) (I : Inv X pins σ H s) (r : Vals vs us) (h : sp vs H Q E0) :
    wpAny (model X.prog X.w) X.A.in1.in1 (call (.ref f) us) (EP X pins σ Q) (fun _ _ => False) s := by
  have hl : (us ++ []).length = ps.length := by
    rw [List.append_nil, ← r.length]
    exact F.len _ _ _ _ h
  have hbt := hb s us I.kIn hl
  rw [List.append_nil] at hbt
  refine wpAny_call (codeAny_mono (F.run X.A.in1.in1 X.stack s H ⟨us, []⟩ us vs Q E0 hr.in1.in1 I.env0.in1.in1 hbt r h) fun z s' hq => ?_)
  cases z with
  | error e => exact hq
  | ok fl =>
    cases fl with
    | ret u => exact I.after hq
    | next => exact hq
    | brk => exact hq
    | cont => exact hq
/-- a place that is ours alone -/
structure Ours (X : Cx) (pins : List (Addr × Obj)) (p : Addr) : Prop where
  late : X.s_0.heap.objs.size ≤ p
  loc : p ≠ X.env.locals
  fs : p ∉ X.fs
  cell : ∀ x c, X.env.cells.lookup x = some c → c ≠ p
  pin : ∀ q ∈ X.pn ++ pins, q.1 ≠ p
theorem ours_new (I : Inv X pins σ H s) {p : Addr} (h : s.heap.objs.size ≤ p) : Ours X pins p := by
  refine ⟨Nat.le_trans I.sz h, fun z => ?_, I.nofs h, fun x c e z => ?_, fun q hq z => ?_⟩
  · have q := I.lt
    rw [← z] at q
    exact absurd (Nat.lt_of_lt_of_le q h) (Nat.lt_irrefl _)
  · obtain ⟨v, o, ho, _⟩ := I.cell x c e
    have q := Heap.lt_size ho
    rw [z] at q
    exact absurd (Nat.lt_of_lt_of_le q h) (Nat.lt_irrefl _)
  · obtain ⟨e, _⟩ := I.pin q hq
    have q := Heap.lt_size e
    rw [z] at q
    exact absurd (Nat.lt_of_lt_of_le q h) (Nat.lt_irrefl _)
/-- two of our places have turned; the one is now a list that is tracked -/
theorem turned2 {h' : Heap} {t' : Nat} {a c : Addr} {ys : List V} (I : Inv X pins σ H s) (oa : Ours X pins a) (oc : Ours X pins c) (na : H a = none) (nc : H c = none) (hac : a ≠ c)
    (k : ∀ b o, b ≠ a → b ≠ c → s.heap.get? b = some o → h'.get? b = some o) (new : ObjOk X.prog X.w (upd H a (.lst ys)) h' a (.lst ys)) :
    Inv X pins σ (upd H a (.lst ys)) { s with heap := h', toks := t' } := by
  have nt : ∀ b u, H b = some u → b ≠ a := fun b u e z => by
    rw [z, na] at e
    cases e
  have nt2 : ∀ b u, H b = some u → b ≠ c := fun b u e z => by
    rw [z, nc] at e
    cases e
  have off : ∀ {b : Addr}, b ∉ [a, c] → b ≠ a ∧ b ≠ c := fun {b} h => ⟨fun z => h (by simp [z]), fun z => h (by simp [z])⟩
  refine I.step (g' := s.gens) (d' := s.drawn) (ch := [a, c]) (fun b hb => ?_) (fun b o _ _ hc e _ => k b o (off hc).1 (off hc).2 e) (fun b o _ _ hc e _ => ⟨o.slots, k b o (off hc).1 (off hc).2 e⟩) (fun b o hc e n => by rw [upd_ne (off hc).1]; exact n)
    (fun b o hc e => ⟨o, k b o (off hc).1 (off hc).2 e⟩) (fun b xs e => by rw [upd_ne (nt b _ e)]; exact e) (fun b o u e => by rw [upd_ne (nt b _ e)]; exact e) (fun b ps e => ⟨#[], by rw [upd_ne (nt b _ e), e]; simp⟩) (fun m hm => ?_) (fun b u e => ?_) I.bare
  · rcases List.mem_cons.mp hb with z | z
    · rw [z]
      exact ⟨.inr oa.late, oa.loc, oa.cell, oa.pin⟩
    · rw [List.mem_singleton.mp z]
      exact ⟨.inr oc.late, oc.loc, oc.cell, oc.pin⟩
  · obtain ⟨o, es, ep, ho, r⟩ := hm
    exact ⟨o, es, ep, k _ o oa.loc.symm oc.loc.symm ho, r⟩
  · by_cases hb : b = a
    · subst hb
      rw [upd_same] at e
      cases e
      exact new
    · rw [upd_ne hb] at e
      refine (I.hok b u e).stay (fun x v hx q => ?_) (fun x q => by rw [upd_ne (nt x _ q)]; exact q) fun x xs q => by rw [upd_ne (nt x _ q)]; exact q
      rcases hx with z | z
      · rw [z] at q ⊢
        exact k b v hb (nt2 b u e) q
      · exact k x v (nt x _ z) (nt2 x _ z) q
/-- one of our places has turned, and is held as it is now -/
theorem turned1 {h' : Heap} {t' : Nat} {c : Addr} {o2 : Obj} (I : Inv X pins σ H s) (oc : Ours X pins c) (nc : H c = none) (k : ∀ b o, b ≠ c → s.heap.get? b = some o → h'.get? b = some o) (e2 : h'.get? c = some o2) (d2 : ∀ v, o2.data ≠ .cell v) :
    Inv X ((c, o2) :: pins) σ H { s with heap := h', toks := t' } := by
  have I2 := I.turned (t' := t') (it := c) k nc oc.loc (.inr oc.late) oc.cell oc.pin
  refine I2.pins_of fun p hp => ?_
  rcases List.mem_cons.mp hp with z | z
  · rw [z]
    exact ⟨e2, nc, oc.loc, oc.fs, d2⟩
  · exact I2.pin p (List.mem_append_right _ z)
end
def pairD (p : Int × Int) : PyData := .tuple [.int p.1, .int p.2]
def keyLe (ky : V → Int × Int) (x y : V) : Bool := decide ((ky x).1 < (ky y).1 ∨ ((ky x).1 = (ky y).1 ∧ (ky x).2 ≤ (ky y).2))
theorem each_vals : ∀ {xs : List V} {us : List Value}, Vals xs us → EachIs (fun v x => RelV x v) us xs
  | _, _, .nil => .nil
  | _, _, .cons r t => .cons r (each_vals t)
theorem vals_each : ∀ {us : List Value} {xs : List V}, EachIs (fun v x => RelV x v) us xs → Vals xs us
  | _, _, .nil => .nil
  | _, _, .cons r t => .cons r (vals_each t)
theorem rd_pair {P : Program} {w : World} {H : Hp} {h : Heap} {t : Addr} {p : Int × Int} (ok : HOk P w H h) (e : H t = some (.tup [.int p.1, .int p.2])) : ∃ as, Reads h (.ref t) (pairD p) as := by
  obtain ⟨_, its, r, o, ho, hc, n, hd⟩ := ok _ _ e
  obtain ⟨u1, u2, rfl, ri, rj⟩ := vals2 r
  obtain ⟨t1, rfl⟩ := ri
  obtain ⟨t2, rfl⟩ := rj
  exact ⟨_, .tuple ho hc hd (.cons (.int _ _) (.cons (.int _ _) .nil))⟩
section
variable {X : Cx} {pins : List (Addr × Obj)} {σ : L2.St} {H : Hp} {s : Shared}
/-- a heap without one of its objects -/
def lessOne (h : Heap) (c : Addr) : Heap := h.update c fun o => ⟨o.cls, o.dict, .freed, o.slots⟩
theorem lessOne_at (h : Heap) (c : Addr) : (lessOne h c).get? c = none := by
  unfold lessOne Heap.get?
  cases h with
  | mk objs l =>
    show (match (objs.modify c _)[c]? with | some ⟨_, _, .freed, _⟩ => none | o => o) = none
    rw [Array.getElem?_modify]
    simp only [if_true]
    cases e : objs[c]? with
    | none => rfl
    | some o => rfl
theorem lessOne_ne {h : Heap} {b c : Addr} (hb : b ≠ c) : (lessOne h c).get? b = h.get? b := Heap.get?_update_ne _ _ _ _ hb
/-- the keys' own def, for the items -/
def KeyFn (sp : Sp) (ky : V → Int × Int) (xs : List V) (H : Hp) : Prop :=
  ∀ x ∈ xs, ∀ H1, Same H H1 → ∀ Q, (∀ t H2, Same H1 H2 → H2 t = some (.tup [.int (ky x).1, .int (ky x).2]) → Q (.ref t) H2) → sp [x] H1 Q E0
def kDat (ky : V → Int × Int) (x : V) : PyData := pairD (ky x)
theorem al_keys (ky : V → Int × Int) (xs : List V) : AllAlike (xs.map (kDat ky)) := AllAlike.of fun _ _ => by simp [kDat, pairD, alike, alikeAll]
theorem so_keys (ky : V → Int × Int) (xs : List V) : Sortable (xs.map (kDat ky)) := Sortable.tuples fun _ => ⟨_, _, rfl⟩
theorem dp_keys (ky : V → Int × Int) (x : V) : (kDat ky x).depth = 1 := by simp [kDat, pairD, PyData.depth, PyData.depthAll]
/-- the list of keys: tuples that are tracked -/
def KeysAt (H : Hp) (ky : V → Int × Int) (ts : List Addr) (xs : List V) : Prop := Paired (fun t x => H t = some (.tup [.int (ky x).1, .int (ky x).2])) ts xs
theorem keys_read {P : Program} {w : World} {h : Heap} (ok : HOk P w H h) (ky : V → Int × Int) : ∀ {ts : List Addr} {xs : List V}, KeysAt H ky ts xs → EachIs (fun v d => ∃ as, Reads h v d as) (ts.map Value.ref) (xs.map (kDat ky))
  | _, _, .nil => .nil
  | _, _, .cons r t => .cons (rd_pair ok r) (keys_read ok ky t)
theorem sort_rest {k : Nat} {f : Addr} {fd : FuncData} {ps : List Str} {sp : Sp} {a kS : Addr} {e1 : Nat} {vs : List Value} {xs : List V} {ky : V → Int × Int} {P : PySem.Fin → Shared → Prop} {E : Value → Shared → Prop}
    (F : FnOk X.prog X.w X.K X.mg X.base CX0 k f fd ps sp) (hr : Room (k + 2) X.A) (hb : L2.Binds X.K fd ps [])
    (I : Inv X pins σ H s) (oa : Ours X pins a) (oc : Ours X pins kS) (hka : kS ≠ a) (na : H a = none) (nc : H kS = none) (ha : s.heap.get? a = some (seqObj "list" #[] e1)) (hk : s.heap.get? kS = some (seqObj "list" #[] 0))
    (rv : Vals xs vs) (hl : xs.length ≤ 1000) (kf : KeyFn sp ky xs H)
    (q : ∀ s' H', Inv X pins σ (upd H' a (.lst (xs.mergeSort (keyLe ky)))) s' → Same H H' → H' a = none → P (.done (.ret .none)) s') :
    wpAny (model X.prog X.w) X.A.in1.in1 (ksk_rest a (.ref f) false vs.toArray e1 (.ref kS)) P E s := by
  have hlv : vs.length = xs.length := rv.length.symm
  have z1000 : ∀ {n : Nat}, n ≤ 1000 → n ≤ sizeLine := fun h => Nat.le_of_lt (small1000 h)
  unfold ksk_rest
  refine wpAny_bind (wpAny_rule ?_)
  rw [List.forIn_toArray]
  have pa : ∀ (e : Nat) (kA : Array Value) (s1 : Shared) (H1 : Hp), Inv X ((a, seqObj "list" #[] e1) :: (kS, seqObj "list" kA e) :: pins) σ H1 s1 → s1.heap.get? a = some (seqObj "list" #[] e1) ∧ s1.heap.get? kS = some (seqObj "list" kA e) ∧ H1 a = none ∧ H1 kS = none := fun e kA s1 H1 J => by
    obtain ⟨g1, g2, _⟩ := J.pin (a, seqObj "list" #[] e1) (List.mem_append_right _ List.mem_cons_self)
    obtain ⟨g3, g4, _⟩ := J.pin (kS, seqObj "list" kA e) (List.mem_append_right _ (List.mem_cons_of_mem _ List.mem_cons_self))
    exact ⟨g1, g3, g2, g4⟩
  refine wpAny_bind (ksk_fold (fun i s1 => ∃ (H1 : Hp) (ts : List Addr) (e : Nat), Inv X ((a, seqObj "list" #[] e1) :: (kS, seqObj "list" (ts.map Value.ref).toArray e) :: pins) σ H1 s1 ∧ Same H H1 ∧ KeysAt H1 ky ts (xs.take i)) vs 0 s ?first ?turn ?last)
  case first =>
    refine ⟨H, [], 0, I.pins_of fun p hp => ?_, Same.refl _, .nil⟩
    rcases List.mem_cons.mp hp with z | hp
    · rw [z]
      exact ⟨ha, na, oa.loc, oa.fs, fun v z => by cases z⟩
    · rcases List.mem_cons.mp hp with z | hp
      · rw [z]
        exact ⟨hk, nc, oc.loc, oc.fs, fun v z => by cases z⟩
      · exact I.pin p (List.mem_append_right _ hp)
  case turn =>
    rintro j u s1 hu ⟨H1, ts, e, J, sm, kt⟩
    rw [Nat.zero_add] at kt ⊢
    have hj : j < vs.length := (List.getElem?_eq_some_iff.mp hu).1
    have hxj : xs[j]? = some xs[j] := List.getElem?_eq_getElem (by omega)
    obtain ⟨u', hu', rx⟩ := rv.get hxj
    rw [hu] at hu'
    obtain rfl := Option.some.inj hu'
    have lt : ts.length = j := by
      have := kt.length
      rw [List.length_take] at this
      omega
    refine wpAny_bind (wpAny_attempt (wpAny_mono (run_in2 (us := [u]) (vs := [xs[j]]) F hr hb J (.cons rx .nil) (kf xs[j] (List.mem_of_getElem? hxj) H1 sm (fun v H2 => ∃ t, v = .ref t ∧ Same H1 H2 ∧ H2 t = some (.tup [.int (ky xs[j]).1, .int (ky xs[j]).2])) (fun t H2 h1 h2 => ⟨t, rfl, h1, h2⟩))) (fun v s2 he => ?_) fun _ _ hF => hF.elim))
    obtain ⟨y, H2, J2, ry, t, rfl, sm2, et⟩ := he
    obtain rfl : v = Value.ref t := ry
    obtain ⟨g1, g2, g3, g4⟩ := pa _ _ _ _ J2
    have arr : (ts.map Value.ref).toArray.push (Value.ref t) = ((ts ++ [t]).map Value.ref).toArray := by simp
    obtain ⟨e', g5⟩ : ∃ e', (s2.heap.update kS (Obj.mapSeq (·.push (Value.ref t)))).get? kS = some (seqObj "list" ((ts ++ [t]).map Value.ref).toArray e') := ⟨_, by rw [← arr]; exact get?_update_seq g2 (·.push (Value.ref t))⟩
    have ku : ∀ b o, b ≠ kS → s2.heap.get? b = some o → (s2.heap.update kS (Obj.mapSeq (·.push (Value.ref t)))).get? b = some o := fun b o hb e => by
      rw [Heap.get?_update_ne _ _ _ _ hb]
      exact e
    have J3 : Inv X ((a, seqObj "list" #[] e1) :: pins) σ H2 s2 := J2.pins_of fun p hp => by
      rcases List.mem_cons.mp hp with z | hp
      · exact J2.pin p (List.mem_append_right _ (by rw [z]; exact List.mem_cons_self))
      · exact J2.pin p (List.mem_append_right _ (List.mem_cons_of_mem _ (List.mem_cons_of_mem _ hp)))
    have oc3 : Ours X ((a, seqObj "list" #[] e1) :: pins) kS := ⟨oc.late, oc.loc, oc.fs, oc.cell, fun p hp => by
      rcases List.mem_append.mp hp with z | z
      · exact oc.pin p (List.mem_append_left _ z)
      · rcases List.mem_cons.mp z with z | z
        · rw [z]
          exact hka.symm
        · exact oc.pin p (List.mem_append_right _ z)⟩
    have J4 := turned1 (t' := s2.toks) J3 oc3 g4 ku g5 (fun v z => by cases z)
    refine wpAny_bind (listUpdate_at g2 rfl ?_ (by rw [List.size_toArray, List.length_map, lt]; exact z1000 (by omega)) (by rw [Array.size_push, List.size_toArray, List.length_map, lt]; exact Nat.succ_le_succ (z1000 (by omega))))
    refine wpAny_pure ⟨rfl, H2, ts ++ [t], e', J4.pins_of fun p hp => J4.pin p (List.mem_append_right _ ?_), sm.trans sm2, ?_⟩
    · rcases List.mem_cons.mp hp with z | hp
      · rw [z]
        exact List.mem_cons_of_mem _ List.mem_cons_self
      · rcases List.mem_cons.mp hp with z | hp
        · rw [z]
          exact List.mem_cons_self
        · exact List.mem_cons_of_mem _ (List.mem_cons_of_mem _ hp)
    · rw [List.take_add_one, hxj]
      exact Paired.snoc (Paired.mapP kt fun _ _ z => sm2 _ _ z) et
  case last =>
    rintro s1 ⟨H1, ts, e, J, sm, kt⟩
    rw [Nat.zero_add, List.take_of_length_le (by omega)] at kt
    obtain ⟨g1, g2, g3, g4⟩ := pa _ _ _ _ J
    have rd := keys_read J.hok ky kt
    have lts : ts.length = xs.length := kt.length
    refine wpAny_bind (listItems_at g2 rfl ?_)
    have J0 : Inv X pins σ H1 s1 := J.pins_of fun p hp => J.pin p (List.mem_append_right _ (List.mem_cons_of_mem _ (List.mem_cons_of_mem _ hp)))
    have rd' : EachIs (fun v d => ∃ as, Reads s1.heap v d as) (ts.map Value.ref).toArray.toList (xs.map (kDat ky)) := rd
    refine keyH_end (κ := dataKind s1.heap (xs.map (kDat ky))) (h₁ := lessOne s1.heap kS) (fun b o hb hx => ?_) (lessOne_at _ _) g2 g1 hka (SortsAt.data (s := s1) rd' (al_keys ky xs) (so_keys ky xs) fun d hd => ?_) (by rw [List.size_toArray, List.length_map]; omega) (z1000 (by omega)) fun h3 tk3 c3 k3 n3 => ?_
    · by_cases z : b = kS
      · rw [z, lessOne_at] at hx
        cases hx
      · rwa [lessOne_ne z] at hx
    · obtain ⟨x, _, rfl⟩ := List.mem_map.mp hd
      rw [dp_keys]
      have := hr.un
      show X.A.units + 2 + 1 < _
      omega
    have ko : KeyedOut false (xs.map (kDat ky)) vs (sortVals (dataKind s1.heap (xs.map (kDat ky))) false (ts.map Value.ref).toArray.toList vs) := ⟨s1.heap, _, al_keys ky xs, rfl, rd'⟩
    have eo := keyedOut_each (kDat ky) ko (each_vals rv)
    have le : dataLe false (kDat ky) = keyLe ky := dataLe_ii (fun x => (ky x).1) (fun x => (ky x).2)
    rw [le] at eo
    refine q _ H1 (turned2 (t' := tk3) J0 oa oc g3 g4 hka.symm (fun b o hba hbk hx => k3 b o hba (by rw [lessOne_ne hbk]; exact hx)) ⟨?_, _, c3, vals_each eo, n3⟩) sm g3
    rw [List.length_mergeSort]
    exact z1000 hl
/-- sorted(xs, key=f), f an own def whose keys are pairs of whole numbers -/
def rSortK (K : PySem.W.Frag) (sp : Sp) (f : Addr) : List V → List V → Hp → VK → Prop := fun vs zs H Q => ∃ (a : Addr) (xs : List V) (ky : V → Int × Int), vs = [.ref a] ∧ zs = [.ref f] ∧ SqL K H a xs ∧ xs.length ≤ 1000 ∧ KeyFn sp ky xs H ∧
  ∀ p H', Same H H' → H p = none → H' p = some (.lst (xs.mergeSort (keyLe ky))) → Q (.ref p) H'
theorem cr_sortK {k : Nat} {f : Addr} {fd : FuncData} {ps : List Str} {sp : Sp} (F : FnOk X.prog X.w X.K X.mg X.base CX0 k f fd ps sp) (hr : Room (k + 2) X.A) (hb : L2.Binds X.K fd ps []) : CallRK X (.builtin "sorted") ["key"] (rSortK X.K sp f) := by
  intro pins s σ H vs zs us ws Q I r1 r2 h
  obtain ⟨a, xs, ky, rfl, rfl, hs, hl, kf, q⟩ := h
  obtain ⟨u, rfl, ru⟩ := vals1 r1
  obtain ⟨u2, rfl, ru2⟩ := vals1 r2
  obtain rfl : u = Value.ref a := ru
  obtain rfl : u2 = Value.ref f := ru2
  obtain ⟨its, rv, pl, _⟩ := I.list hs
  have z1000 : ∀ {n : Nat}, n ≤ 1000 → n ≤ sizeLine := fun h => Nat.le_of_lt (small1000 h)
  have li : its.length ≤ sizeLine := by
    rw [← rv.length]
    exact z1000 hl
  show wpAny (model X.prog X.w) X.A (call (.builtin "sorted") [.ref a] [(Str.ofString "key", .ref f)]) _ _ s
  refine sorted_of_sort pl.isList li (ksk_s1 _ _) (fun _ => ksk_l1 _ _) fun E' => ?_
  rw [ksk_t1]
  have at0 := copyHeap_at s.heap its
  obtain ⟨ep, at1⟩ : ∃ ep, ((copyHeap s.heap its).update (s.heap.objs.size + 1) (Obj.mapSeq fun _ => #[])).get? (s.heap.objs.size + 1) = some (seqObj "list" #[] ep) := ⟨_, get?_update_seq at0 _⟩
  unfold ksk_tree
  refine wpAny_bind (listItems_at at0 rfl ?_)
  refine wpAny_bind (listUpdate_at at0 rfl ?_ (by rw [List.size_toArray]; exact li) (Nat.zero_le _))
  refine wpAny_bind (seqEpoch_at at1 rfl ?_)
  refine wpAny_bind (wpAny_newTuple ?_ (by show its.length ≤ _; exact li))
  refine wpAny_bind (wpAny_newList ?_ (Nat.zero_le _))
  refine wpAny_holding ?_
  have kpt : ∀ b o, s.heap.get? b = some o → (sortingHeap (copyHeap s.heap its) (s.heap.objs.size + 1) its).get? b = some o := fun b o e => sorting_copy_old e
  have I1 := I.kept (t' := s.toks) kpt
  have szc : ((copyHeap s.heap its).update (s.heap.objs.size + 1) (Obj.mapSeq fun _ => #[])).objs.size = s.heap.objs.size + 2 := by
    rw [Heap.size_update]
    unfold copyHeap
    rw [size_push', Heap.size_update, size_push']
  have szk : (((copyHeap s.heap its).update (s.heap.objs.size + 1) (Obj.mapSeq fun _ => #[])).push (seqObj "tuple" its.toArray 0)).objs.size = s.heap.objs.size + 3 := by
    rw [size_push', szc]
  have big : ∀ j : Nat, s.heap.objs.size ≤ s.heap.objs.size + j := fun j => Nat.le_add_right _ _
  refine sort_rest (H := H) (xs := xs) (ky := ky) F hr hb I1 (ours_new I (big 1)) (ours_new I (by rw [szk]; exact big 3)) (by rw [szk]; exact Nat.ne_of_gt (Nat.add_lt_add_left (by decide) _)) (I.hok.fresh (big 1)) (I.hok.fresh (by rw [szk]; exact big 3))
    (Heap.get?_push_of_some _ (Heap.get?_push_of_some _ at1)) (Heap.get?_push_size _ rfl) rv hl kf fun s' H' J sm nn => ⟨rfl, .ref (s.heap.objs.size + 1), _, J, rfl, q _ _ (sm.trans (same_upd nn)) (I.hok.fresh (big 1)) upd_same⟩
end
end My

namespace My
open PySem PySem.Spec PyProof.Rows L2 RT
section
variable {prog : Program} {w : World} {A : Around} {E : Value → Shared → Prop} {s : Shared}
/-- list(it), it a list's iterator from its end -/
theorem call_list_rev {it l : Addr} {items : Array Value} {Q : Value → Shared → Prop} (hh : A.handled = none) (hit : s.heap.IsRevIter it l ((items.size : Int) - 1)) (hl : s.heap.IsList l items) (hne : l ≠ it) (hn : items.size ≤ sizeLine)
    (q : ∀ (h' : Heap) (tk : Nat) (acc : Array Value) (c : Nat), (∀ b o, b ≠ it → s.heap.get? b = some o → h'.get? b = some o) → h'.get? s.heap.objs.size = some (seqObj "list" acc c) → ItemsOf (fun i v => items[items.size - 1 - i]? = some v) acc items.size → Q (.ref s.heap.objs.size) { s with heap := h', toks := tk }) :
    wpAny (model prog w) A (call (.type "list") [.ref it]) Q E s := by
  obtain ⟨oi, hoi, _⟩ := id hit
  obtain ⟨ol, hol, _⟩ := id hl
  have ni : s.heap.objs.size ≠ it := Nat.ne_of_gt (Heap.lt_size hoi)
  have nl : s.heap.objs.size ≠ l := Nat.ne_of_gt (Heap.lt_size hol)
  have nf : s.heap.objs.size ∉ [it, l] := fun z => by
    rcases List.mem_cons.mp z with z | z
    · exact ni z
    · exact nl (List.mem_singleton.mp z)
  refine callType_codes (Q₁ := fun obj s₁ => obj = .ref s.heap.objs.size ∧ s₁ = { s with heap := s.heap.push (seqObj "list" #[] 0) }) F.called_list (F.typeCall_list_1 _) F.entry_list_init (code_list_new _ ⟨rfl, rfl⟩) fun obj s₁ hx => ?_
  obtain ⟨rfl, rfl⟩ := hx
  have e0 : (s.heap.push (seqObj "list" #[] 0)).get? s.heap.objs.size = some (seqObj "list" #[] 0) := Heap.get?_push_size _ rfl
  refine ⟨⟨_, e0, rfl⟩, F.args_list_init_2 _ _, ?_⟩
  show wpAny _ _ (do let old ← Builtin.List.listItems (.ref s.heap.objs.size); Builtin.List.listUpdate (.ref s.heap.objs.size) (fun _ => #[]); letGo old.toList.reverse; Builtin.List.listExtendWith (.ref s.heap.objs.size) (.ref it) .none) _ _ _
  refine wpAny_bind (listItems_at e0 rfl ?_)
  refine wpAny_bind (listUpdate_at e0 rfl ?_ (Nat.zero_le _) (Nat.zero_le _))
  refine wpAny_bind (wpAny_letGo ?_)
  obtain ⟨n1, e1⟩ : ∃ n1, ((s.heap.push (seqObj "list" #[] 0)).update s.heap.objs.size (Obj.mapSeq fun _ => #[])).get? s.heap.objs.size = some (seqObj "list" #[] n1) := ⟨_, get?_update_seq e0 _⟩
  have old : ∀ b o, s.heap.get? b = some o → ((s.heap.push (seqObj "list" #[] 0)).update s.heap.objs.size (Obj.mapSeq fun _ => #[])).get? b = some o := fun b o e => by
    rw [Heap.get?_update_ne _ _ _ _ (Nat.ne_of_lt (Heap.lt_size e))]
    exact Heap.get?_push_of_some _ e
  generalize (s.heap.push (seqObj "list" #[] 0)).update s.heap.objs.size (Obj.mapSeq fun _ => #[]) = h1 at e1 old
  have r1 : h1.IsRevIter it l ((items.size : Int) - 1) := hit.at fun o e => old _ _ e
  have l1 : h1.IsList l items := by
    obtain ⟨o, ho, r⟩ := hl
    exact ⟨o, old _ _ ho, r⟩
  have ty : ({ s with heap := h1 } : Shared).TypeIs (.ref it) "list_reverseiterator" := Heap.IsRevIter.typeIs (s := { s with heap := h1 }) r1
  have no : Builtin.List.listSameRef (.ref s.heap.objs.size) (.ref it) = false := by simp [Builtin.List.listSameRef, ni]
  have W := (Walks.listRev (prog := prog) (w := w) (A := A.in1.in1) hh it l hne items).toS
  unfold Builtin.List.listExtendWith
  refine wpAny_bind (wpAny_typeOf ty ?_)
  rw [if_neg (by rw [no]; decide)]
  refine wpAny_bind (wpAny_pyIter_revIter (s := { s with heap := h1 }) r1 ?_)
  refine wpAny_bind (wpAny_holding ?_)
  unfold Builtin.List.listLengthHint
  refine wpAny_bind (wpAny_specialOf ty nolen_lri ?_)
  show wpAny _ _ (specialOf (Value.ref it) (Str.ofString "__length_hint__") >>= _) _ _ _
  refine wpAny_bind (wpAny_specialOf ty hint_lri ?_)
  generalize nm : ("list_reverseiterator.__length_hint__" : String) = nm0
  wp_delta
  rw [show splitId nm0 = some ("list_reverseiterator", "__length_hint__") from by subst nm; decide +kernel]
  subst nm
  refine wpAny_bind (wpAny_isInstance (b := true) ty (by rw [isSubtype_type]; kernel_rfl) ?_)
  refine wpAny_pure ?_
  rw [if_neg (by decide)]
  have z0 : ((items.size : Nat) : Int) - 1 - ((0 : Nat) : Int) = (items.size : Int) - 1 := by omega
  refine wpAny_pure ⟨plainId_quiet F.plain_extend_loop _, codeAny_extend_loopS W hn _ nf _ items.size 0 _ _ _ rfl (Nat.zero_le _) ⟨Nat.zero_le _, by rw [z0]; exact r1, l1⟩ e1 (ItemsOf.nil _) fun s' acc' c' hm hS hacc => ?_⟩
  rw [Moved.eq_with hm]
  refine ⟨rfl, q s'.heap s'.toks acc' c' (fun b o hb e => hm.heap b o (fun z => ?_) (old _ _ e)) hS hacc⟩
  rcases List.mem_cons.mp z with z | z
  · exact absurd (Heap.lt_size e) (by rw [z]; exact Nat.lt_irrefl _)
  · exact hb (List.mem_singleton.mp z)
end
section
variable {X : Cx}
/-- list(reversed(x)), x a list -/
def tLstRev (K : PySem.W.Frag) (te : TE) : TE := fun σ H Q => te σ H fun v H1 => ∃ (a : Addr) (xs : List V), v = .ref a ∧ SqL K H1 a xs ∧ ∀ p, H1 p = none → Q (.ref p) (upd H1 p (.lst xs.reverse))
theorem pe_lstRev {e : Expr} {te : TE} {p p2 pos pos2 : Pos} (hc : X.calm = true) (hg : Gl X "list") (hm : X.mg "list" = none) (hg2 : Gl X "reversed") (hm2 : X.mg "reversed" = none) (he : PE X e te)
    (h1 : starEach [e] X.env = (false, eval e X.env) :: starEach [] X.env := by rfl)
    (h2 : starEach [.Call (.Name "reversed" p2) [e] [] pos2] X.env = (false, eval (.Call (.Name "reversed" p2) [e] [] pos2) X.env) :: starEach [] X.env := by rfl) :
    PE X (.Call (.Name "list" p) [.Call (.Name "reversed" p2) [e] [] pos2] [] pos) (tLstRev X.K te) := by
  refine ⟨fun pins s σ H Q I h => ?_⟩
  refine Call_ (ld_blt I hg hm bt_list (callWith_type1 (args_cons (Call_ (ld_blt I hg2 hm2 boot_reversed (callWith_type1 (args_cons (thn (he.run pins s σ H _ I h) fun u s1 ⟨v, H1, I1, r1, q1⟩ => args_nil ?_) h1) h1 rfl))) h2) h2 rfl))
  obtain ⟨a, xs, rfl, hq, q⟩ := q1
  obtain rfl : u = Value.ref a := r1
  obtain ⟨its, rv, pl, hz⟩ := I1.list hq
  refine call_reversed_list pl.isList (args_nil ?_)
  have I2 : Inv X pins σ H1 { s1 with heap := s1.heap.push (revObj a ((its.toArray.size : Int) - 1)) } := I1.kept (t' := s1.toks) fun b o e => Heap.get?_push_of_some _ e
  obtain ⟨f0, f1, f2, f3, f4, f5⟩ := I1.fpOk (H' := H1) (b := s1.heap.objs.size) (Nat.le_refl _) (I1.hok.fresh (Nat.le_refl _))
  have li := pl.isList
  obtain ⟨ol, hol, _⟩ := id li
  have hn : its.toArray.size ≤ sizeLine := by
    rw [List.size_toArray, ← rv.length]
    exact hz
  refine call_list_rev (s := { s1 with heap := s1.heap.push (revObj a ((its.toArray.size : Int) - 1)) }) (I1.ok.hd hc) ⟨_, Heap.get?_push_size _ rfl, rfl, rfl⟩ (li.push _) (Nat.ne_of_lt (Heap.lt_size hol)) hn fun h' tk acc c hk hat hi => ?_
  have bigger : s1.heap.objs.size ≤ (s1.heap.push (revObj a ((its.toArray.size : Int) - 1))).objs.size := by
    rw [size_push']
    exact Nat.le_succ _
  generalize hL : (s1.heap.push (revObj a ((its.toArray.size : Int) - 1))).objs.size = L at hat bigger ⊢
  have neL : L ≠ s1.heap.objs.size := by
    rw [← hL, size_push']
    exact Nat.succ_ne_self _
  have oL : Ours X pins L := ours_new I1 bigger
  have oR : Ours X pins s1.heap.objs.size := ours_new I1 (Nat.le_refl _)
  refine ⟨.ref L, upd H1 L (.lst xs.reverse), turned2 (t' := tk) I2 oL oR (I1.hok.fresh bigger) (I1.hok.fresh (Nat.le_refl _)) neL (fun b o _ hb e => hk b o hb e) ⟨?_, acc.toList, c, vals_rev rv hi, ?_⟩, rfl, q _ (I1.hok.fresh bigger)⟩
  · rw [List.length_reverse]
    exact hz
  · rw [Array.toArray_toList]
    exact hat
end
end My

namespace My
open PySem PySem.W PySem.Spec PyProof.Rows L2
section
variable {X : Cx}
theorem shaped_plain {d : PyData} (h : SeqAt.shaped d = true) : d.plain = true := PyData.plain_of_canLay0 d (SeqAt.canLay_of_shaped h)
/-- xs.remove(y): the first that is equal goes -/
def rRemD (K : PySem.W.Frag) : V → List V → Hp → VK → Prop := fun x xs H Q => ∃ (l : Addr) (vs : List V) (y : V) (d : PyData) (ds : List PyData) (j : Nat), x = .ref l ∧ xs = [y] ∧ H l = some (.lst vs) ∧ DpAll K H vs ds ∧ Dp K H y d ∧
  SeqAt.shaped (.list ds) = true ∧ SeqAt.shaped d = true ∧ SeqAt.dataPlace ds d = some j ∧ Q .non (upd H l (.lst (vs.eraseIdx j)))
theorem mt_removeD (hu : X.A.units + 65 < cLine) : MtM X "list.remove" (rRemD X.K) := by
  intro pins s σ H x xs v us Q I rx rxs h
  obtain ⟨l, vs, y, d, ds, j, rfl, rfl, hl, ha, hy, sl, sd, hp, q⟩ := h
  cases rx
  obtain ⟨u, rfl, ru⟩ := rxs.one
  obtain ⟨z, its, n, r, hlen, e⟩ := I.lstM hl
  obtain ⟨bs, r1⟩ := Dp.reads I d y u hy ru
  obtain ⟨as, r2⟩ := Dp.readsAll I ds vs its ha r
  have dd := SeqAt.depth_of_shaped sd
  refine SeqAt.remove_list_data (vs := its.toArray) (xs := ds) (d := d) (j := j) ⟨_, e, rfl, n, rfl⟩ r2 r1 (by have := shaped_plain sl; simpa [PyData.plain] using this) (shaped_plain sd) ?_ hp (by rw [List.size_toArray, ← hlen]; exact z) ?_
  · have := Nat.min_le_right (PyData.depthAll ds) d.depth
    omega
  · have rr := r.eraseIdx j
    refine ⟨.non, _, I.lset (its' := its.eraseIdx j) (t' := s.toks) hl e ?_ rr ?_, rfl, q⟩
    · show its.toArray.eraseIdxIfInBounds j = (its.eraseIdx j).toArray
      rw [List.eraseIdxIfInBounds_toArray]
    · have := List.length_eraseIdx_le vs j
      omega
/-- sorted(xs), xs a list of data that are alike -/
def rSortD (K : PySem.W.Frag) : List V → Hp → VK → Prop := fun vs H Q => ∃ (a : Addr) (xs : List V) (enc : V → PyData), vs = [.ref a] ∧ SqL K H a xs ∧ (∀ x ∈ xs, Dp K H x (enc x)) ∧ AllAlike (xs.map enc) ∧ Sortable (xs.map enc) ∧ (∀ x ∈ xs, (enc x).depth ≤ 60) ∧
  ∀ p, H p = none → Q (.ref p) (upd H p (.lst (xs.mergeSort (dataLe false enc))))
theorem cr_sortD (hu : X.A.units + 64 < cLine) : CallR X (.builtin "sorted") (rSortD X.K) := by
  intro pins s σ H vs us Q I r h
  obtain ⟨a, xs, enc, rfl, hs, hd, hal, hso, hdp, q⟩ := h
  obtain ⟨its, rv, hl, hz⟩ := I.list hs
  rw [Vals.ref1 r]
  have er : ∀ {xs : List V} {its : List Value}, (∀ x ∈ xs, Dp X.K H x (enc x)) → Vals xs its → EachIs (fun v b => ∃ as, Reads s.heap v (enc b) as) its xs := by
    intro xs its hd rv
    induction rv with
    | nil => exact .nil
    | cons r t ih => exact .cons (Dp.reads I _ _ _ (hd _ List.mem_cons_self) r) (ih fun x hx => hd x (List.mem_cons_of_mem _ hx))
  refine sorted_data hl.isList (each_vals rv) (er hd rv) hal hso hz (fun x hx => ?_) fun out ho eo => ?_
  · have := hdp x hx
    omega
  obtain ⟨ep, at1⟩ := sortedAll_at s.heap its out.toArray
  refine ⟨.ref _, upd H (s.heap.objs.size + 1) (.lst (xs.mergeSort (dataLe false enc))), I.laid (t' := s.toks) (fun _ _ => sortedAll_old) (Nat.le_succ _) ⟨?_, out, ep, vals_each eo, at1⟩, rfl, q _ (I.hok.fresh (Nat.le_succ _))⟩
  rw [List.length_mergeSort]
  exact hz
end
end My

namespace My
open PySem PySem.W PySem.Spec PyProof.Rows L2 GX GxR
/-! the order of rows -/
def rowLe (R S : Gang × Int) : Bool := decide (-R.1.rank < -S.1.rank ∨ (-R.1.rank = -S.1.rank ∧ R.2 ≤ S.2))
def ord (Rs : List (Gang × Int)) : List (Gang × Int) := Rs.mergeSort rowLe
theorem rowLe_trans (a b c : Gang × Int) (h1 : rowLe a b = true) (h2 : rowLe b c = true) : rowLe a c = true := by
  unfold rowLe at *
  simp only [decide_eq_true_eq] at *
  omega
theorem rowLe_total (a b : Gang × Int) : (rowLe a b || rowLe b a) = true := by
  unfold rowLe
  simp only [Bool.or_eq_true, decide_eq_true_eq]
  omega
theorem ord_sorted (Rs : List (Gang × Int)) : (ord Rs).Pairwise fun a b => rowLe a b = true := List.pairwise_mergeSort rowLe_trans rowLe_total Rs
theorem ord_perm (Rs : List (Gang × Int)) : (ord Rs).Perm Rs := List.mergeSort_perm Rs rowLe
theorem uniq_sorted {α : Type} {le : α → α → Bool} : ∀ {xs ys : List α}, xs.Perm ys → xs.Pairwise (fun a b => le a b = true) → ys.Pairwise (fun a b => le a b = true) → (∀ a ∈ xs, ∀ b ∈ xs, le a b = true → le b a = true → a = b) → xs = ys
  | [], ys, p, _, _, _ => (List.nil_perm.mp p).symm ▸ rfl
  | x :: xs, [], p, _, _, _ => absurd p.length_eq (by simp)
  | x :: xs, y :: ys, p, hx, hy, anti => by
    have hxy : x = y := by
      have h1 : x ∈ y :: ys := p.mem_iff.mp List.mem_cons_self
      have h2 : y ∈ x :: xs := p.mem_iff.mpr List.mem_cons_self
      rcases List.mem_cons.mp h1 with e | h1
      · exact e
      · rcases List.mem_cons.mp h2 with e | h2
        · exact e.symm
        · exact anti x List.mem_cons_self y (List.mem_cons_of_mem _ h2) ((List.pairwise_cons.mp hx).1 y h2) ((List.pairwise_cons.mp hy).1 x h1)
    subst hxy
    rw [uniq_sorted (List.Perm.cons_inv p) (List.pairwise_cons.mp hx).2 (List.pairwise_cons.mp hy).2 fun a ha b hb => anti a (List.mem_cons_of_mem _ ha) b (List.mem_cons_of_mem _ hb)]
/-- what a gang of a row is, for the laws' own reckoning -/
structure Fit (R : Gang × Int) : Prop where
  name : PySem.PyData.strOk R.1.name = true
  guild : PySem.PyData.strOk R.1.guild = true
  how : PySem.PyData.strOk R.1.how = true
  wlen : R.1.want.length ≤ 8
  amt : Amt R.1.want
  m0 : 0 ≤ R.1.many
  m60 : R.1.many ≤ 60
structure Good2 (Rs : List (Gang × Int)) : Prop where
  fit : ∀ R ∈ Rs, Fit R
  names : (Rs.map (·.1.name)).Nodup
  nums : (Rs.map (·.2)).Nodup
  len : Rs.length ≤ 100
theorem nodup_inj {α β : Type} {f : α → β} : ∀ {xs : List α}, (xs.map f).Nodup → ∀ a ∈ xs, ∀ b ∈ xs, f a = f b → a = b
  | [], _, _, h, _, _, _ => nomatch h
  | x :: xs, nd, a, ha, b, hb, e => by
    rw [List.map_cons, List.nodup_cons] at nd
    rcases List.mem_cons.mp ha with za | ha
    · rcases List.mem_cons.mp hb with zb | hb
      · rw [za, zb]
      · rw [za] at e
        exact absurd (List.mem_map.mpr ⟨b, hb, e.symm⟩) nd.1
    · rcases List.mem_cons.mp hb with zb | hb
      · rw [zb] at e
        exact absurd (List.mem_map.mpr ⟨a, ha, e⟩) nd.1
      · exact nodup_inj nd.2 a ha b hb e
theorem rowLe_anti {Rs : List (Gang × Int)} (h : (Rs.map (·.2)).Nodup) : ∀ a ∈ Rs, ∀ b ∈ Rs, rowLe a b = true → rowLe b a = true → a = b := fun a ha b hb h1 h2 => by
  refine nodup_inj h a ha b hb ?_
  unfold rowLe at h1 h2
  simp only [decide_eq_true_eq] at h1 h2
  show a.2 = b.2
  omega
/-- THE order: any sorted arrangement is it -/
theorem ord_of {Rs Ss : List (Gang × Int)} (h : (Rs.map (·.2)).Nodup) (p : Ss.Perm Rs) (s : Ss.Pairwise fun a b => rowLe a b = true) : Ss = ord Rs :=
  uniq_sorted (p.trans (ord_perm Rs).symm) s (ord_sorted Rs) fun a ha b hb => rowLe_anti h a (p.mem_iff.mp ha) b (p.mem_iff.mp hb)
theorem ord_perm_eq {Rs Ss : List (Gang × Int)} (h : (Rs.map (·.2)).Nodup) (p : Ss.Perm Rs) : ord Ss = ord Rs := ord_of h ((ord_perm Ss).trans p) (ord_sorted Ss)
theorem Good2.perm {Rs Ss : List (Gang × Int)} (h : Good2 Rs) (p : Ss.Perm Rs) : Good2 Ss :=
  ⟨fun R hR => h.fit R (p.mem_iff.mp hR), (p.map (·.1.name)).nodup_iff.mpr h.names, (p.map (·.2)).nodup_iff.mpr h.nums, by rw [p.length_eq]; exact h.len⟩
theorem Good2.sub {Rs Ss : List (Gang × Int)} (h : Good2 Rs) (p : Ss.Sublist Rs) : Good2 Ss :=
  ⟨fun R hR => h.fit R (p.subset hR), (p.map (·.1.name)).nodup h.names, (p.map (·.2)).nodup h.nums, Nat.le_trans p.length_le h.len⟩
/-! rows as data -/
def gangD (G : Gang) : PyData := .tuple [.str G.name, .str G.guild, .int G.rank, .int G.many, .tuple (G.want.map PyData.int), .str G.how, .int G.len]
def rowD (R : Gang × Int) : PyData := .tuple [gangD R.1, .int R.2]
theorem dp_ints {K : PySem.W.Frag} {H : Hp} : ∀ ns : List Int, DpAll K H (ns.map V.int) (ns.map PyData.int)
  | [] => .nil
  | n :: ns => .cons (.int n) (dp_ints ns)
theorem dp_gang {K : PySem.W.Frag} {H : Hp} {g : Addr} {G : Gang} (h : GangAt H g G) : Dp K H (.ref g) (gangD G) := by
  obtain ⟨w, h1, h2⟩ := h
  exact .tup (SqT.of h1) (.cons (.str _) (.cons (.str _) (.cons (.int _) (.cons (.int _) (.cons (.tup (SqT.of h2) (dp_ints _)) (.cons (.str _) (.cons (.int _) .nil)))))))
theorem dp_row {K : PySem.W.Frag} {H : Hp} {r : Addr} {R : Gang × Int} (h : RowAt H r R) : Dp K H (.ref r) (rowD R) := by
  obtain ⟨g, h1, h2⟩ := h
  exact .tup (SqT.of h1) (.cons (dp_gang h2) (.cons (.int _) .nil))
theorem dp_rows {K : PySem.W.Frag} {H : Hp} : ∀ {as : List Addr} {Rs : List (Gang × Int)}, Paired (RowAt H) as Rs → DpAll K H (as.map V.ref) (Rs.map rowD)
  | _, _, .nil => .nil
  | _, _, .cons r t => .cons (dp_row r) (dp_rows t)
theorem lay_ints : ∀ ns : List Int, PyData.canLayAll0 (ns.map PyData.int) = true
  | [] => rfl
  | n :: ns => by
    show (PyData.canLay0 (.int n) && PyData.canLayAll0 (ns.map PyData.int)) = true
    rw [lay_ints ns]
    rfl
theorem dpt_ints (ns : List Int) : PyData.depthAll (ns.map PyData.int) = 0 := depth_ints ns
theorem lay_row {R : Gang × Int} (f : Fit R) : PyData.canLay0 (rowD R) = true := by
  simp [rowD, gangD, PyData.canLay0, PyData.canLayAll0, f.name, f.guild, f.how, lay_ints]
theorem dpt_row (R : Gang × Int) : (rowD R).depth = 3 := by
  simp [rowD, gangD, PyData.depth, PyData.depthAll, dpt_ints]
theorem sh_row {R : Gang × Int} (f : Fit R) : SeqAt.shaped (rowD R) = true := by
  unfold SeqAt.shaped
  rw [lay_row f, dpt_row]
  rfl
theorem lay_rows : ∀ {Rs : List (Gang × Int)}, (∀ R ∈ Rs, Fit R) → PyData.canLayAll0 (Rs.map rowD) = true
  | [], _ => rfl
  | R :: Rs, h => by
    show (PyData.canLay0 (rowD R) && PyData.canLayAll0 (Rs.map rowD)) = true
    rw [lay_row (h R List.mem_cons_self), lay_rows fun S hS => h S (List.mem_cons_of_mem _ hS)]
    rfl
theorem dpt_rows : ∀ Rs : List (Gang × Int), PyData.depthAll (Rs.map rowD) ≤ 3
  | [] => by decide
  | R :: Rs => by
    show PyData.depthAll (rowD R :: Rs.map rowD) ≤ 3
    have := dpt_rows Rs
    simp only [PyData.depthAll, dpt_row]
    omega
theorem sh_rows {Rs : List (Gang × Int)} (h : ∀ R ∈ Rs, Fit R) : SeqAt.shaped (.list (Rs.map rowD)) = true := by
  unfold SeqAt.shaped
  have h1 : PyData.canLay0 (.list (Rs.map rowD)) = true := lay_rows h
  have h2 : (PyData.list (Rs.map rowD)).depth ≤ 64 := by
    have := dpt_rows Rs
    simp only [PyData.depth]
    omega
  rw [h1, decide_eq_true h2]
  rfl
theorem eqv_name {R S : Gang × Int} (h : PyData.eqv (rowD R) (rowD S) = true) : R.1.name = S.1.name := by
  simp only [rowD, gangD, PyData.eqv, PyData.eqvAll, Bool.and_eq_true] at h
  exact eq_of_beq h.1.1
theorem eqv_row {R : Gang × Int} (f : Fit R) : PyData.eqv (rowD R) (rowD R) = true := SeqAt.eqv_refl_plain _ (shaped_plain (sh_row f))
theorem eqv_nil (ds : List PyData) : PyData.eqv (.list ds) (.list []) = ds.isEmpty := by
  cases ds <;> rfl
theorem eqv_list {ds : List PyData} (h : SeqAt.shaped (.list ds) = true) : PyData.eqv (.list ds) (.list ds) = true := SeqAt.eqv_refl_plain _ (shaped_plain h)
theorem place_row {Rs : List (Gang × Int)} (h : Good2 Rs) {j : Nat} {R : Gang × Int} (hj : Rs[j]? = some R) : SeqAt.dataPlace (Rs.map rowD) (rowD R) = some j := by
  obtain ⟨lt, e⟩ := List.getElem?_eq_some_iff.mp hj
  unfold SeqAt.dataPlace
  rw [List.findIdx?_eq_some_iff_getElem]
  refine ⟨by rw [List.length_map]; exact lt, ?_, fun m hm => ?_⟩
  · rw [List.getElem_map, e]
    exact eqv_row (h.fit R (List.mem_of_getElem? hj))
  · rw [List.getElem_map]
    intro z
    have hn := eqv_name z
    have nd := List.pairwise_iff_getElem.mp h.names m j (by rw [List.length_map]; omega) (by rw [List.length_map]; exact lt) hm
    rw [List.getElem_map, List.getElem_map, e] at nd
    exact nd hn
/-! rows of the state -/
theorem hows_ok : ∀ z ∈ hows, PySem.PyData.strOk z = true := by decide +kernel
theorem fit_of {gs : List Str} {wr : Nat} {G : Gang} {n : Int} (ok : GangOk gs wr G) (g : GsOk gs) (w8 : wr ≤ 8) (hn : PySem.PyData.strOk G.name = true) : Fit (G, n) :=
  ⟨hn, g.str _ ok.guild, hows_ok _ ok.how, by show G.want.length ≤ 8; rw [ok.wlen]; exact w8, ok.amt, by have := ok.m1; show 0 ≤ G.many; omega, ok.m60⟩
theorem good_state {gs : List Str} {wr : Nat} {Rs : List (Gang × Int)} (g : GsOk gs) (w8 : wr ≤ 8) (h : RowsOk gs wr Rs) : Good2 Rs := by
  obtain ⟨hl, h⟩ := h
  have at_ : ∀ {i : Nat} (hi : i < Rs.length), RowOk gs wr i Rs[i] := fun {i} hi => h i _ (List.getElem?_eq_getElem hi)
  refine ⟨fun R hR => ?_, ?_, ?_, by omega⟩
  · obtain ⟨i, hi, rfl⟩ := List.mem_iff_getElem.mp hR
    have q := at_ hi
    exact fit_of (G := Rs[i].1) (n := Rs[i].2) q.ok g w8 (by rw [q.name]; exact (names_ok1.2 _ (rowName_mem (by omega))).1)
  · rw [List.Nodup, List.pairwise_iff_getElem]
    intro i j hi hj hij z
    rw [List.length_map] at hi hj
    rw [List.getElem_map, List.getElem_map, (at_ hi).name, (at_ hj).name] at z
    have := rowName_inj (by omega) (by omega) z
    omega
  · rw [List.Nodup, List.pairwise_iff_getElem]
    intro i j hi hj hij z
    rw [List.length_map] at hi hj
    rw [List.getElem_map, List.getElem_map] at z
    have a := (at_ hi).nm
    have b := (at_ hj).nm
    rw [z, b] at a
    omega
end My

namespace My
open PySem PySem.W PySem.Spec PyProof.Rows L2 GX GxR
/-! two lists, as a list of pairs -/
theorem paired_zip {α β : Type} {R : α → β → Prop} : ∀ {xs : List α} {ys : List β}, Paired R xs ys → ∃ ps : List (α × β), ps.map (·.1) = xs ∧ ps.map (·.2) = ys ∧ ∀ p ∈ ps, R p.1 p.2
  | _, _, .nil => ⟨[], rfl, rfl, fun _ h => nomatch h⟩
  | x :: xs, y :: ys, .cons r t => by
    obtain ⟨ps, h1, h2, h3⟩ := paired_zip t
    refine ⟨(x, y) :: ps, by rw [List.map_cons, h1], by rw [List.map_cons, h2], fun p hp => ?_⟩
    rcases List.mem_cons.mp hp with z | z
    · rw [z]
      exact r
    · exact h3 p z
theorem paired_of {α β : Type} {R : α → β → Prop} : ∀ {ps : List (α × β)}, (∀ p ∈ ps, R p.1 p.2) → Paired R (ps.map (·.1)) (ps.map (·.2))
  | [], _ => .nil
  | p :: ps, h => .cons (h p List.mem_cons_self) (paired_of fun q hq => h q (List.mem_cons_of_mem _ hq))
theorem perm_erase {α : Type} : ∀ (xs : List α) (j : Nat) (x : α), xs[j]? = some x → (x :: xs.eraseIdx j).Perm xs
  | [], j, x, h => by simp at h
  | y :: ys, 0, x, h => by
    cases h
    exact List.Perm.refl _
  | y :: ys, j + 1, x, h => by
    have ih := perm_erase ys j x (by simpa using h)
    exact (List.Perm.swap y x _).trans (List.Perm.cons y ih)
theorem erase_map2 {α β : Type} (f : α → β) : ∀ (xs : List α) (j : Nat), (xs.map f).eraseIdx j = (xs.eraseIdx j).map f
  | [], j => by simp
  | x :: xs, 0 => by simp
  | x :: xs, j + 1 => by simp [erase_map2 f xs j]
/-! keys of rows -/
def kyOf (H : Hp) : V → Int × Int
  | .ref a => match H a with
    | some (.tup [.ref g, .int n]) => match H g with
      | some (.tup [_, _, .int r, _, _, _, _]) => (-r, n)
      | _ => (0, 0)
    | _ => (0, 0)
  | _ => (0, 0)
theorem kyOf_row {H : Hp} {a : Addr} {R : Gang × Int} (h : RowAt H a R) : kyOf H (.ref a) = (-R.1.rank, R.2) := by
  obtain ⟨g, h1, w, h2, _⟩ := h
  simp only [kyOf, h1, h2, Gang.flat]
theorem sort_rows {H : Hp} {ps : List (Addr × (Gang × Int))} (h : ∀ p ∈ ps, RowAt H p.1 p.2) :
    ∃ qs : List (Addr × (Gang × Int)), qs.Perm ps ∧ ((ps.map (·.1)).map V.ref).mergeSort (keyLe (kyOf H)) = (qs.map (·.1)).map V.ref ∧ qs.map (·.2) = ord (ps.map (·.2)) := by
  refine ⟨ps.mergeSort fun p q => rowLe p.2 q.2, List.mergeSort_perm _ _, ?_, ?_⟩
  · rw [List.map_map, List.map_map]
    refine (List.map_mergeSort fun a ha b hb => ?_).symm
    show rowLe a.2 b.2 = keyLe (kyOf H) (V.ref a.1) (V.ref b.1)
    unfold keyLe
    rw [kyOf_row (h a ha), kyOf_row (h b hb)]
    rfl
  · exact List.map_mergeSort fun a _ b _ => rfl
def spRank : Sp := fun vs H Q _ => ∃ (g : Addr) (G : Gang), vs = [.ref g] ∧ GangAt H g G ∧ Q (.int G.rank) H
def spPlace : Sp := fun vs H Q _ => ∃ (r : Addr) (R : Gang × Int), vs = [.ref r] ∧ RowAt H r R ∧ ∀ t H', Same H H' → H' t = some (.tup [.int (-R.1.rank), .int R.2]) → Q (.ref t) H'
def spInOrd (K : PySem.W.Frag) : Sp := fun vs H Q _ => ∃ (a : Addr) (as : List Addr) (Rs : List (Gang × Int)), vs = [.ref a] ∧ SqL K H a (as.map V.ref) ∧ Paired (RowAt H) as Rs ∧ Rs.length ≤ 1000 ∧
  ∀ p H' bs, Same H H' → H p = none → H' p = some (.lst (bs.map V.ref)) → Paired (GangAt H') bs ((ord Rs).map (·.1)) → Q (.ref p) H'
def spOrder (K : PySem.W.Frag) : Sp := fun vs H Q _ => ∃ (a : Addr) (as : List Addr) (Rs : List (Gang × Int)), vs = [.ref a] ∧ SqL K H a (as.map V.ref) ∧ Paired (RowAt H) as Rs ∧ Good2 Rs ∧
  ∀ p H' bs, Same H H' → H p = none → H' p = some (.lst (bs.map V.ref)) → Paired (RowAt H') bs (ord Rs) → Q (.ref p) H'
theorem RowAt.same {H H' : Hp} {r : Addr} {R : Gang × Int} (s : Same H H') (h : RowAt H r R) : RowAt H' r R := h.kt (Same.kt s)
theorem GangAt.same {H H' : Hp} {r : Addr} {R : Gang} (s : Same H H') (h : GangAt H r R) : GangAt H' r R := h.kt (Same.kt s)
theorem key_rows {H : Hp} {as : List Addr} {Rs : List (Gang × Int)} (h : Paired (RowAt H) as Rs) : KeyFn spPlace (kyOf H) (as.map V.ref) H := by
  intro x hx H1 s1 Q q
  obtain ⟨a, ha, rfl⟩ := List.mem_map.mp hx
  obtain ⟨i, hi⟩ := List.mem_iff_getElem?.mp ha
  obtain ⟨R, _, hR⟩ := paired_get h hi
  refine ⟨a, R, rfl, hR.same s1, fun t H' s2 e => q t H' s2 ?_⟩
  rw [kyOf_row hR]
  exact e
/-- better than the best so far -/
def better (R B : Gang × Int) : Prop := R.1.rank > B.1.rank ∨ (R.1.rank = B.1.rank ∧ R.2 < B.2)
theorem not_better {R B : Gang × Int} (h : ¬ better R B) : rowLe B R = true := by
  unfold better at h
  unfold rowLe
  rw [decide_eq_true_eq]
  omega
theorem better_le {R B : Gang × Int} (h : better R B) : rowLe R B = true := by
  unfold better at h
  unfold rowLe
  rw [decide_eq_true_eq]
  omega
def lenAt (H : Hp) (l : Addr) : Nat := match H l with
  | some (.lst xs) => xs.length
  | _ => 0
theorem lenAt_of {H : Hp} {l : Addr} {xs : List V} (h : H l = some (.lst xs)) : lenAt H l = xs.length := by
  unfold lenAt
  rw [h]
theorem _root_.L2.Room.units65 {k : Nat} {A : Around} (r : Room k A) : A.units + 65 < cLine := by
  have := r.un
  omega
end My

namespace My
open PySem PySem.Spec PyProof.Rows L2 GX GxR
abbrev s_scOrder : Stmt := topS 31
abbrev n_scOrder : List Str := ["_law_rows", "_law_left", "_law_order_here", "_law_best", "_law_row"]
theorem scOrder : FnScope n_scOrder ["_law_rows"] (defScope s_scOrder) := ⟨rfl, rfl, rfl, by decide +kernel, rfl, by decide +kernel, by decide +kernel⟩
section
variable {P : Program} {w : World} {K : PySem.W.Frag} {mg : Str → Option Value} {base : Heap}
theorem ok_order {f : Addr} {fd : FuncData} {k : Nat} (F : Fun K "_law_order" "_law_order" s_scOrder f fd) (X : Txt mg) : FnOk P w K mg base CX0 (k + 1) f fd ["_law_rows"] (spOrder K) := by
  refine F.ok scOrder (fun vs H Q E h => ?_) (fun cdv A outer s H vs Q E hr h => ?_)
  · obtain ⟨a, as, Rs, rfl, _⟩ := h
    rfl
  · obtain ⟨a, as, Rs, rfl, hS, hP, hg, q⟩ := h
    refine ⟨_, (pss_cons (ps_set (i := 1) scOrder.nd rfl (.inl rfl) (pe_callTy call_list_of (by rfl) X.lst bt_list (pa_cons (pv 0) pa_nil)))
      (pss_cons (ps_set (i := 2) scOrder.nd rfl (.inl rfl) (pe_lst pa_nil))
      (C8.pss_cut (ps_while PassesOwn.never (pt_cmpR (op_neD hr.units) (pv 1) (pe_lst pa_nil) (nomark _))
        (pss_cons (ps_set (i := 3) scOrder.nd rfl (.inl rfl) (pe_ix ix_list (pv 1) pe_int (fun _ _ => rfl)))
        (C8.pss_cut (ps_for PassesOwn.never rfl (pi_list (pv 1)) (pg_name (i := 4) scOrder.nd rfl (.inl rfl))
          (pss_one (ps_if (PW.pt (pw_or (pt_cmpR op_gt (pe_ix ix_tup (pe_ix ix_tup (pv 4) pe_int (fun _ _ => rfl)) pe_int (fun _ _ => rfl)) (pe_ix ix_tup (pe_ix ix_tup (pv 3) pe_int (fun _ _ => rfl)) pe_int (fun _ _ => rfl)) (nomark _)) (pw_or1 (PW.pt (pw_and (pt_cmpR op_eq (pe_ix ix_tup (pe_ix ix_tup (pv 4) pe_int (fun _ _ => rfl)) pe_int (fun _ _ => rfl)) (pe_ix ix_tup (pe_ix ix_tup (pv 3) pe_int (fun _ _ => rfl)) pe_int (fun _ _ => rfl)) (nomark _)) (pw_and1 (pt_cmpR op_lt (pe_ix ix_tup (pv 4) pe_int (fun _ _ => rfl)) (pe_ix ix_tup (pv 3) pe_int (fun _ _ => rfl)) (nomark _))))))))
            (pss_one (ps_set (i := 3) scOrder.nd rfl (.inl rfl) (pv 4)))
            pss_nil)))
        (pss_cons (ps_expr (pe_bm PySem.F.plainAttrs_list PySem.F.slot_list_append PySem.F.type_list_append mt_append (pv 2) (pa_cons (pv 3) pa_nil)))
        (pss_one (ps_expr (pe_bm PySem.F.plainAttrs_list PySem.F.slot_list_remove PySem.F.type_list_remove (mt_removeD hr.units65) (pv 1) (pa_cons (pv 3) pa_nil))))))))
      (pss_one (ps_ret (pv 2)))))), ?_⟩
    obtain ⟨ps, z1, z2, z3⟩ := paired_zip hP
    refine ⟨_, rfl, a, _, rfl, .inl hS, fun l nl => ?_⟩
    refine ⟨by show 0 ≤ sizeLine; decide, fun o no => ?_⟩
    have s0 : Same H (upd (upd H l (.lst (as.map V.ref))) o (.lst [])) := (same_upd nl).trans (same_upd no)
    have lo : l ≠ o := fun z => by
      rw [← z, upd_same] at no
      cases no
    have fo : H o = none := (same_upd nl).free no
    refine ⟨fun σ H' => ∃ (y3 y4 : Option V) (bs : List Addr), σ = [some (.ref a), some (.ref l), some (.ref o), y3, y4] ∧ Same H H' ∧ H' o = some (.lst (bs.map V.ref)) ∧ Paired (RowAt H') bs (ord Rs), ?_, fun σ H' hm => ?_⟩
    · refine while_by (fun σ H' => ∃ (y3 y4 : Option V) (Lq Oq : List (Addr × (Gang × Int))), σ = [some (.ref a), some (.ref l), some (.ref o), y3, y4] ∧ Same H H' ∧ H' l = some (.lst ((Lq.map (·.1)).map V.ref)) ∧ H' o = some (.lst ((Oq.map (·.1)).map V.ref)) ∧
          (Oq ++ Lq).Perm ps ∧ (Oq.map (·.2)).Pairwise (fun a b => rowLe a b = true) ∧ ∀ u ∈ Oq, ∀ v ∈ Lq, rowLe u.2 v.2 = true) (fun _ H' => lenAt H' l)
        ⟨none, none, ps, [], rfl, s0, by rw [upd_ne lo, upd_same, z1], upd_same, List.Perm.refl _, .nil, fun _ h => (nomatch h)⟩ (fun σ H1 hp => ?_) (fun σ H1 Q1 Q2 hq h => ?_)
      · obtain ⟨y3, y4, Lq, Oq, rfl, s1, el, eo, pm, so, le⟩ := hp
        have at_ : ∀ u ∈ Lq, RowAt H u.1 u.2 := fun u hu => z3 u (pm.mem_iff.mp (List.mem_append_right _ hu))
        have gL : Good2 (Lq.map (·.2)) := by
          refine (hg.perm (Ss := (Oq ++ Lq).map (·.2)) ?_).sub ?_
          · rw [← z2]
            exact pm.map _
          · rw [List.map_append]
            exact List.sublist_append_right _ _
        have len : Oq.length + Lq.length ≤ 100 := by
          have h1 := pm.length_eq
          have h2 := congrArg List.length z2
          have h3 := hg.len
          rw [List.length_append] at h1
          rw [List.length_map] at h2
          omega
        refine ⟨_, rfl, by show 0 ≤ sizeLine; decide, fun e ne => ?_⟩
        have s2 : Same H1 (upd H1 e (.lst [])) := same_upd ne
        have dL : Dp K (upd H1 e (.lst [])) (.ref l) (.list ((Lq.map (·.2)).map rowD)) := .lst (SqL.of (s2 _ _ el)) (dp_rows (paired_of fun u hu => ((at_ u hu).same s1).same s2))
        refine ⟨_, _, dL, .lst (SqL.of upd_same) .nil, sh_rows gL.fit, by decide, _, rfl, ?_⟩
        rw [eqv_nil]
        have el2 := s2 _ _ el
        have eo2 := s2 _ _ eo
        have sH := s1.trans s2
        have lm : lenAt (upd H1 e (.lst [])) l = lenAt H1 l := by rw [lenAt_of el2, lenAt_of el]
        rw [← lm]
        generalize upd H1 e (.lst []) = H2 at dL el2 eo2 sH lm ⊢
        cases Lq with
        | nil =>
          refine iteF ?_
          rw [List.append_nil] at pm
          refine ⟨_, _, Oq.map (·.1), rfl, sH, eo2, ?_⟩
          have e1 : Oq.map (·.2) = ord Rs := ord_of hg.nums (by rw [← z2]; exact pm.map _) so
          rw [← e1]
          exact paired_of fun u hu => (z3 u (pm.mem_iff.mp hu)).same sH
        | cons q0 Lr =>
          refine iteT ?_
          refine ⟨_, rfl, l, _, 0, .ref q0.1, rfl, rfl, SqL.of el2, atI_nat (j := 0) rfl, ?_⟩
          refine ⟨fun σ H' => ∃ (y4 : Option V) (b : Addr × (Gang × Int)), σ = [some (.ref a), some (.ref l), some (.ref o), some (.ref b.1), y4] ∧ H' = H2 ∧ b ∈ q0 :: Lr ∧ ∀ u ∈ q0 :: Lr, rowLe b.2 u.2 = true, ?_, fun σ H' hm => ?_⟩
          · refine ⟨_, rfl, l, rfl, ⟨_, SqL.of el2⟩, ?_⟩
            refine for_list (xs := ((q0 :: Lr).map (·.1)).map V.ref) (fun i σ H' => ∃ (y4 : Option V) (b : Addr × (Gang × Int)), σ = [some (.ref a), some (.ref l), some (.ref o), some (.ref b.1), y4] ∧ H' = H2 ∧ b ∈ q0 :: Lr ∧ ∀ u ∈ (q0 :: Lr).take i, rowLe b.2 u.2 = true)
              ⟨y4, q0, rfl, rfl, List.mem_cons_self, fun u hu => by rw [List.take_zero] at hu; exact (nomatch hu)⟩ (fun i σ H' _ p => ?_) (fun i x σ H' hx p => ?_) (fun σ H' p => ?_)
            · obtain ⟨_, _, _, rfl, _⟩ := p
              exact SqL.of el2
            · obtain ⟨y4, b, rfl, rfl, hb, hle⟩ := p
              obtain ⟨ra, hra, rfl⟩ := map_get hx
              rw [List.getElem?_map] at hra
              cases eu : (q0 :: Lr)[i]? with
              | none =>
                rw [eu] at hra
                cases hra
              | some u =>
                rw [eu] at hra
                cases hra
                have hu := List.mem_of_getElem? eu
                obtain ⟨gu, u1, wu, u2, _⟩ := (at_ u hu).same sH
                obtain ⟨gb, b1, wb, b2, _⟩ := (at_ b hb).same sH
                have tk : (q0 :: Lr).take (i + 1) = (q0 :: Lr).take i ++ [u] := by
                  rw [List.take_add_one, eu]
                  rfl
                have put : better u.2 b.2 → ∃ (y4 : Option V) (b' : Addr × (Gang × Int)), ([some (.ref a), some (.ref l), some (.ref o), some (.ref u.1), some (.ref u.1)] : L2.St) = [some (.ref a), some (.ref l), some (.ref o), some (.ref b'.1), y4] ∧ H' = H' ∧ b' ∈ q0 :: Lr ∧ ∀ v ∈ (q0 :: Lr).take (i + 1), rowLe b'.2 v.2 = true := fun hbt => by
                  refine ⟨_, u, rfl, rfl, hu, fun v hv => ?_⟩
                  rw [tk] at hv
                  rcases List.mem_append.mp hv with z | z
                  · exact rowLe_trans _ _ _ (better_le hbt) (hle v z)
                  · rw [List.mem_singleton.mp z]
                    exact (Bool.or_self _).symm.trans (rowLe_total u.2 u.2)
                have stay : ¬ better u.2 b.2 → ∃ (y4 : Option V) (b' : Addr × (Gang × Int)), ([some (.ref a), some (.ref l), some (.ref o), some (.ref b.1), some (.ref u.1)] : L2.St) = [some (.ref a), some (.ref l), some (.ref o), some (.ref b'.1), y4] ∧ H' = H' ∧ b' ∈ q0 :: Lr ∧ ∀ v ∈ (q0 :: Lr).take (i + 1), rowLe b'.2 v.2 = true := fun hbt => by
                  refine ⟨_, b, rfl, rfl, hb, fun v hv => ?_⟩
                  rw [tk] at hv
                  rcases List.mem_append.mp hv with z | z
                  · exact hle v z
                  · rw [List.mem_singleton.mp z]
                    exact not_better hbt
                refine ⟨_, rfl, u.1, _, 0, .ref gu, rfl, rfl, SqT.of u1, rfl, gu, _, 2, .int u.2.1.rank, rfl, rfl, SqT.of u2, rfl, _, rfl, b.1, _, 0, .ref gb, rfl, rfl, SqT.of b1, rfl, gb, _, 2, .int b.2.1.rank, rfl, rfl, SqT.of b2, rfl, _, _, rfl, rfl, _, rfl, ite2 (fun e1 => ?_) (fun e1 => ?_)⟩
                · have h1 : b.2.1.rank < u.2.1.rank := of_decide_eq_true e1
                  refine iteT ?_
                  exact ⟨_, rfl, put (.inl h1)⟩
                · have h1 : ¬ b.2.1.rank < u.2.1.rank := fun z => e1 (decide_eq_true z)
                  refine ⟨_, rfl, u.1, _, 0, .ref gu, rfl, rfl, SqT.of u1, rfl, gu, _, 2, .int u.2.1.rank, rfl, rfl, SqT.of u2, rfl, _, rfl, b.1, _, 0, .ref gb, rfl, rfl, SqT.of b1, rfl, gb, _, 2, .int b.2.1.rank, rfl, rfl, SqT.of b2, rfl, rfl, _, rfl, ite2 (fun e2 => ?_) (fun e2 => ?_)⟩
                  · have h2 : u.2.1.rank = b.2.1.rank := by
                      have := of_decide_eq_true e2
                      injection this
                    refine ⟨_, rfl, u.1, _, 1, .int u.2.2, rfl, rfl, SqT.of u1, rfl, _, rfl, b.1, _, 1, .int b.2.2, rfl, rfl, SqT.of b1, rfl, _, _, rfl, rfl, _, rfl, ite2 (fun e3 => ?_) (fun e3 => ?_)⟩
                    · have h3 : u.2.2 < b.2.2 := of_decide_eq_true e3
                      exact ⟨_, rfl, put (.inr ⟨h2, h3⟩)⟩
                    · have h3 : ¬ u.2.2 < b.2.2 := fun z => e3 (decide_eq_true z)
                      exact stay fun z => by
                        rcases z with z | z
                        · exact h1 z
                        · exact h3 z.2
                  · have h2 : ¬ u.2.1.rank = b.2.1.rank := fun z => e2 (decide_eq_true (congrArg V.int z))
                    refine iteF ?_
                    exact stay fun z => by
                      rcases z with z | z
                      · exact h1 z
                      · exact h2 z.1
            · obtain ⟨y4, b, rfl, rfl, hb, hle⟩ := p
              rw [List.length_map, List.length_map, List.take_of_length_le (Nat.le_refl _)] at hle
              exact ⟨y4, b, rfl, rfl, hb, hle⟩
          obtain ⟨y4', b, rfl, rfl, hb, hle⟩ := hm
          obtain ⟨j, hj⟩ := List.mem_iff_getElem?.mp hb
          have pe := perm_erase (q0 :: Lr) j b hj
          refine ⟨_, rfl, .inl ⟨rfl, _, SqL.of eo2⟩, _, rfl, o, _, _, rfl, rfl, eo2, ?_, ?_⟩
          · rw [List.length_map, List.length_map]
            exact small63 (by omega)
          have kt : KTu H' (upd H' o (.lst ((Oq.map (·.1)).map V.ref ++ [V.ref b.1]))) := kt_put eo2 (fun xs z => by cases z)
          have el3 : upd H' o (.lst ((Oq.map (·.1)).map V.ref ++ [V.ref b.1])) l = some (.lst (((q0 :: Lr).map (·.1)).map V.ref)) := by
            rw [upd_ne lo]
            exact el2
          have sH3 : Same H (upd H' o (.lst ((Oq.map (·.1)).map V.ref ++ [V.ref b.1]))) := same_put sH fo
          refine ⟨_, rfl, .inl ⟨rfl, _, SqL.of el3⟩, _, rfl, l, _, _, rowD b.2, ((q0 :: Lr).map (·.2)).map rowD, j, rfl, rfl, el3, dp_rows (paired_of fun u hu => (at_ u hu).same sH3), dp_row ((at_ b hb).same sH3), sh_rows gL.fit, sh_row (gL.fit _ (List.mem_map.mpr ⟨b, hb, rfl⟩)), place_row gL (by rw [List.getElem?_map, hj]; rfl), ?_⟩
          have er : ((((q0 :: Lr).map (·.1)).map V.ref).eraseIdx j) = (((q0 :: Lr).eraseIdx j).map (·.1)).map V.ref := by rw [erase_map2, erase_map2]
          rw [er]
          refine ⟨⟨_, _, (q0 :: Lr).eraseIdx j, Oq ++ [b], rfl, same_put sH3 nl, upd_same, ?_, ?_, ?_, fun u hu v hv => ?_⟩, ?_⟩
          · rw [upd_ne lo.symm, upd_same, List.map_append, List.map_append]
            rfl
          · rw [List.append_assoc]
            exact (List.Perm.append_left Oq pe).trans pm
          · rw [List.map_append, List.pairwise_append]
            refine ⟨so, List.pairwise_singleton _ _, fun x hx y hy => ?_⟩
            obtain ⟨u, hu, rfl⟩ := List.mem_map.mp hx
            rw [List.mem_singleton.mp hy]
            exact le u hu b hb
          · have hv' : v ∈ q0 :: Lr := pe.mem_iff.mp (List.mem_cons_of_mem _ hv)
            rcases List.mem_append.mp hu with z | z
            · exact le u z v hv'
            · rw [List.mem_singleton.mp z]
              exact hle v hv'
          · have h1 := pe.length_eq
            show lenAt _ l < lenAt H' l
            rw [lenAt_of upd_same, lenAt_of el2, List.length_map, List.length_map, List.length_map, List.length_map]
            rw [List.length_cons] at h1
            omega
      · obtain ⟨v, ev, z, f⟩ := h
        exact ⟨v, ev, z, fun p np => by
          obtain ⟨d, e, h1, h2, h3, h4, kk, ek, q⟩ := f p np
          exact ⟨d, e, h1, h2, h3, h4, kk, ek, hq _ _ q⟩⟩
    · obtain ⟨y3, y4, bs, rfl, s1, e1, p1⟩ := hm
      exact ⟨_, rfl, q o H' bs s1 fo e1 p1⟩
end
end My

namespace My
open PySem PySem.W PySem.Spec PyProof.Rows L2 GX GxR
theorem ints_inj : ∀ {xs ys : List Int}, xs.map V.int = ys.map V.int → xs = ys
  | [], [], _ => rfl
  | [], _ :: _, h => by cases h
  | _ :: _, [], h => by cases h
  | x :: xs, y :: ys, h => by
    rw [List.map_cons, List.map_cons] at h
    injection h with h1 h2
    injection h1 with h1
    rw [h1, ints_inj h2]
theorem gang_uniq {H : Hp} {g : Addr} {G G' : Gang} (h : GangAt H g G) (h' : GangAt H g G') : G = G' := by
  obtain ⟨w, h1, h2⟩ := h
  obtain ⟨w', h1', h2'⟩ := h'
  rw [h1] at h1'
  simp only [Gang.flat, Option.some.injEq, HO.tup.injEq, List.cons.injEq, V.str.injEq, V.int.injEq, V.ref.injEq, and_true] at h1'
  obtain ⟨e1, e2, e3, e4, e5, e6, e7⟩ := h1'
  rw [← e5, h2] at h2'
  simp only [Option.some.injEq, HO.tup.injEq] at h2'
  have e8 := ints_inj h2'
  cases G
  cases G'
  simp only at e1 e2 e3 e4 e6 e7 e8
  subst e1 e2 e3 e4 e6 e7 e8
  rfl
theorem row_uniq {H : Hp} {a : Addr} {R R' : Gang × Int} (h : RowAt H a R) (h' : RowAt H a R') : R = R' := by
  obtain ⟨g, h1, h2⟩ := h
  obtain ⟨g', h1', h2'⟩ := h'
  rw [h1] at h1'
  simp only [Option.some.injEq, HO.tup.injEq, List.cons.injEq, V.int.injEq, V.ref.injEq, and_true] at h1'
  obtain ⟨e1, e2⟩ := h1'
  rw [← e1] at h2'
  exact Prod.ext (gang_uniq h2 h2') e2
open Classical in
noncomputable def encOf (H : Hp) (x : V) : PyData := if h : ∃ R : Gang × Int, ∃ a, x = V.ref a ∧ RowAt H a R then rowD h.choose else .none
theorem encOf_row {H : Hp} {a : Addr} {R : Gang × Int} (h : RowAt H a R) : encOf H (.ref a) = rowD R := by
  have ex : ∃ R : Gang × Int, ∃ b, V.ref a = V.ref b ∧ RowAt H b R := ⟨R, a, rfl, h⟩
  unfold encOf
  rw [dif_pos ex]
  obtain ⟨b, e, hb⟩ := ex.choose_spec
  injection e with e
  rw [← e] at hb
  rw [row_uniq hb h]
theorem alike_ints2 : ∀ xs ys : List Int, alikeAll (xs.map PyData.int) (ys.map PyData.int) = true := alike_ints
theorem alike_rows (R S : Gang × Int) : alike (rowD R) (rowD S) = true := by
  simp [rowD, gangD, alike, alikeAll, alike_ints2]
theorem perm_rows {H : Hp} {ps : List (Addr × (Gang × Int))} (le : V → V → Bool) : ∃ qs : List (Addr × (Gang × Int)), qs.Perm ps ∧ ((ps.map (·.1)).map V.ref).mergeSort le = (qs.map (·.1)).map V.ref := by
  refine ⟨ps.mergeSort fun p q => le (V.ref p.1) (V.ref q.1), List.mergeSort_perm _ _, ?_⟩
  rw [List.map_map, List.map_map]
  exact (List.map_mergeSort (f := V.ref ∘ fun x : Addr × (Gang × Int) => x.1) (r := fun p q => le (V.ref p.1) (V.ref q.1)) (s := le) fun a ha b hb => rfl).symm
theorem prs_gangs {H : Hp} {n : Nat} : ∀ {bs ds : List Addr} {Gs : List Gang}, Paired (GangAt H) bs Gs → Paired (GangAt H) ds Gs → (∀ G ∈ Gs, G.want.length < 100000) → Prs (Sm H (n + 2)) (bs.map V.ref) (ds.map V.ref)
  | _, _, _, .nil, .nil, _ => .nil
  | _, _, _, .cons h t, .cons h' t', hl => .cons (sm_gang h h' (hl _ List.mem_cons_self)) (prs_gangs t t' fun G hG => hl G (List.mem_cons_of_mem _ hG))
/-- a list of the same rows, in some order -/
def Like (H : Hp) (Rs : List (Gang × Int)) (b : Addr) : Prop := ∃ (as : List Addr) (Ss : List (Gang × Int)), H b = some (.lst (as.map V.ref)) ∧ Paired (RowAt H) as Ss ∧ Ss.Perm Rs
theorem Like.same {H H' : Hp} {Rs : List (Gang × Int)} {b : Addr} (s : Same H H') (h : Like H Rs b) : Like H' Rs b := by
  obtain ⟨as, Ss, h1, h2, h3⟩ := h
  exact ⟨as, Ss, s _ _ h1, h2.mono fun _ _ x => x.same s, h3⟩
theorem paired_rev {α β : Type} {R : α → β → Prop} : ∀ {xs : List α} {ys : List β}, Paired R xs ys → Paired R xs.reverse ys.reverse
  | _, _, .nil => .nil
  | x :: xs, y :: ys, .cons r t => by
    rw [List.reverse_cons, List.reverse_cons]
    exact Paired.snoc (paired_rev t) r
end My

namespace My
open PySem PySem.W PySem.Spec PyProof.Rows L2 GX GxR
/-! tables of generator expressions -/
def Tabs (Ts : List Addr) (H : Hp) : Prop := ∀ T ∈ Ts, TabG H T
structure Fw (Ts : List Addr) (H H' : Hp) : Prop where
  kp : Kp Ts H H'
  tabs : Tabs Ts H'
section
variable {Ts : List Addr} {H H1 H2 : Hp}
theorem Fw.refl (t : Tabs Ts H) : Fw Ts H H := ⟨Kp.refl _ _, t⟩
theorem Fw.trans (f : Fw Ts H H1) (g : Fw Ts H1 H2) : Fw Ts H H2 := ⟨f.kp.trans g.kp, g.tabs⟩
theorem Fw.same (t : Tabs Ts H) (s : Same H H1) : Fw Ts H H1 := ⟨Same.kp _ s, fun T h => TabG.same s (t T h)⟩
theorem Fw.then (f : Fw Ts H H1) (s : Same H1 H2) : Fw Ts H H2 := f.trans (Fw.same f.tabs s)
theorem Fw.step (t : Tabs Ts H) {T : Addr} (h : T ∈ Ts) (k : Kp [T] H H1) (g : TabG H1 T) : Fw Ts H H1 := by
  refine ⟨k.mono fun x hx => by rw [List.mem_singleton.mp hx]; exact h, fun T' h' => ?_⟩
  by_cases z : T' = T
  · rw [z]
    exact g
  · exact TabG.kp k (fun q => z (List.mem_singleton.mp q)) (t T' h')
theorem tab_off {x : Addr} {o : HO} (t : Tabs Ts H) (h : H x = some o) (no : ∀ ps, o ≠ .tbl ps) : x ∉ Ts := fun z => tab_ne (t x z) h no rfl
theorem Fw.obj (t : Tabs Ts H) (f : Fw Ts H H1) {x : Addr} {o : HO} (h : H x = some o) (no : ∀ ps, o ≠ .tbl ps) : H1 x = some o := f.kp _ _ (tab_off t h no) h
theorem Fw.lst (t : Tabs Ts H) (f : Fw Ts H H1) {x : Addr} {xs : List V} (h : H x = some (.lst xs)) : H1 x = some (.lst xs) := f.obj t h fun ps z => by cases z
theorem Fw.kt (t : Tabs Ts H) (f : Fw Ts H H1) : KTu H H1 := fun x xs h => f.obj t h fun ps z => by cases z
theorem Fw.free (t : Tabs Ts H) (f : Fw Ts H H1) {x : Addr} (h : H1 x = none) : H x = none := by
  cases e : H x with
  | none => rfl
  | some o =>
    by_cases z : x ∈ Ts
    · obtain ⟨ps, h1, _⟩ := f.tabs x z
      rw [h1] at h
      cases h
    · rw [f.kp _ _ z e] at h
      cases h
theorem Fw.put (t : Tabs Ts H) (f : Fw Ts H H1) {x : Addr} {o : HO} (n : H x = none) : Fw Ts H (upd H1 x o) := by
  have nT : x ∉ Ts := fun z => by
    obtain ⟨ps, h1, _⟩ := t x z
    rw [h1] at n
    cases n
  refine ⟨fun y u ny e => ?_, fun T hT => ?_⟩
  · rw [upd_ne (ne_of_none e n)]
    exact f.kp _ _ ny e
  · obtain ⟨ps, h1, h2⟩ := f.tabs T hT
    exact ⟨ps, by rw [upd_ne (fun z => nT (by rw [← z]; exact hT))]; exact h1, h2⟩
theorem Fw.seqL {K : PySem.W.Frag} (t : Tabs Ts H) (f : Fw Ts H H1) {a : Addr} {xs : List V} (h : SqL K H a xs) : SqL K H1 a xs := by
  rcases h with (h | ⟨o, h⟩) | h
  · exact .inl (.inl (f.lst t h))
  · exact .inl (.inr ⟨o, f.obj t h fun ps z => by cases z⟩)
  · exact .inr h
theorem Fw.seqT {K : PySem.W.Frag} (t : Tabs Ts H) (f : Fw Ts H H1) {a : Addr} {xs : List V} (h : SqT K H a xs) : SqT K H1 a xs := by
  rcases h with (h | ⟨o, h⟩) | h
  · exact .inl (.inl (f.kt t _ _ h))
  · exact .inl (.inr ⟨o, f.obj t h fun ps z => by cases z⟩)
  · exact .inr h
end
/-! a guild's own ones and the lent -/
def fitB (xs ys : List Int) : Bool := (List.zipWith (fun a b : Int => decide (a ≤ b)) xs ys).all _root_.id
theorem zip_bl {g : V → V → V} {op : Int → Int → Bool} (h : ∀ i j, g (.int i) (.int j) = .bl (op i j)) : ∀ xs ys : List Int, (((xs.map V.int).zip (ys.map V.int)).map fun v => g v.1 v.2) = (List.zipWith op xs ys).map V.bl
  | [], _ => rfl
  | _ :: _, [] => rfl
  | x :: xs, y :: ys => by
    show g (.int x) (.int y) :: (((xs.map V.int).zip (ys.map V.int)).map fun v => g v.1 v.2) = .bl (op x y) :: (List.zipWith op xs ys).map V.bl
    rw [h, zip_bl h xs ys]
def spFits (K : PySem.W.Frag) (T : Addr) : Sp := fun vs H Q _ => ∃ (a b : Addr) (xs ys : List Int), vs = [.ref a, .ref b] ∧ SqT K H a (xs.map V.int) ∧ SqT K H b (ys.map V.int) ∧ TabG H T ∧ ∀ H', TabG H' T → Kp [T] H H' → Q (.bl (fitB xs ys)) H'
def addL (xs ys : List Int) : List Int := List.zipWith (· + ·) xs ys
def zeros (n : Nat) : List Int := List.replicate n 0
/-- in turn: own where it fits with those ahead, else lent; and what the own ones come to -/
def partA (dn : List Int) : List Gang → List Gang → List Gang → List Int → List Gang × List Gang × List Int
  | [], o, l, ld => (o, l, ld)
  | G :: Gs, o, l, ld => if fitB (addL ld G.whole) dn = true then partA dn Gs (o ++ [G]) l (addL ld G.whole) else partA dn Gs o (l ++ [G]) ld
def partRs (dn : List Int) (Rs : List (Gang × Int)) : List Gang × List Gang × List Int := partA dn ((ord Rs).map (·.1)) [] [] (zeros dn.length)
theorem partA_step {dn : List Int} {Gs : List Gang} {i : Nat} {G : Gang} {o l : List Gang} {ld : List Int} (h : Gs[i]? = some G) :
    partA dn (Gs.drop i) o l ld = if fitB (addL ld G.whole) dn = true then partA dn (Gs.drop (i + 1)) (o ++ [G]) l (addL ld G.whole) else partA dn (Gs.drop (i + 1)) o (l ++ [G]) ld := by
  obtain ⟨lt, e⟩ := List.getElem?_eq_some_iff.mp h
  rw [List.drop_eq_getElem_cons lt, e]
  rfl
def spGName : Sp := fun vs H Q _ => ∃ (g : Addr) (G : Gang), vs = [.ref g] ∧ GangAt H g G ∧ Q (.str G.name) H
structure PIn (K : PySem.W.Frag) (H : Hp) (du a : Addr) (dn : List Int) (as : List Addr) (Rs : List (Gang × Int)) : Prop where
  due : SqT K H du (dn.map V.int)
  d1 : 1 ≤ dn.length
  d8 : dn.length ≤ 8
  rows : SqL K H a (as.map V.ref)
  prs : Paired (RowAt H) as Rs
  good : Good2 Rs
  wlen : ∀ R ∈ Rs, R.1.want.length = dn.length
def spPartG (K : PySem.W.Frag) (Ts : List Addr) : Sp := fun vs H Q _ => ∃ (du a : Addr) (dn : List Int) (as : List Addr) (Rs : List (Gang × Int)), vs = [.ref du, .ref a] ∧ PIn K H du a dn as Rs ∧ Tabs Ts H ∧
  ∀ t o l e H' os ls, Fw Ts H H' → H t = none → H' t = some (.tup [.ref o, .ref l, .ref e]) → H' o = some (.lst (os.map V.ref)) → H' l = some (.lst (ls.map V.ref)) → Paired (GangAt H') os (partRs dn Rs).1 → Paired (GangAt H') ls (partRs dn Rs).2.1 → H' e = some (.tup ((partRs dn Rs).2.2.map V.int)) → Q (.ref t) H'
def spParted (K : PySem.W.Frag) (Ts : List Addr) : Sp := fun vs H Q _ => ∃ (du a : Addr) (dn : List Int) (as : List Addr) (Rs : List (Gang × Int)), vs = [.ref du, .ref a] ∧ PIn K H du a dn as Rs ∧ Tabs Ts H ∧
  ∀ t o l H', Fw Ts H H' → H t = none → H' t = some (.tup [.ref o, .ref l]) → H o = none → H l = none → o ≠ l → H' o = some (.lst (((partRs dn Rs).1.map (·.name)).map V.str)) → H' l = some (.lst (((partRs dn Rs).2.1.map (·.name)).map V.str)) → Q (.ref t) H'
def spLPart (K : PySem.W.Frag) : Sp := fun vs H Q _ => ∃ (du a : Addr) (dn : List Int) (as : List Addr) (Rs : List (Gang × Int)), vs = [.ref du, .ref a] ∧ PIn K H du a dn as Rs ∧
  ∀ t o l b H', Same H H' → H t = none → H' t = some (.tup [.ref o, .ref l, .ref b]) → H o = none → H l = none → H b = none → H' o = some (.lst (((partRs dn Rs).1.map (·.name)).map V.str)) → H' l = some (.lst (((partRs dn Rs).2.1.map (·.name)).map V.str)) → H' b = some (.lst ((partRs dn Rs).2.2.map V.int)) → Q (.ref t) H'
def spLGuild (K : PySem.W.Frag) : Sp := fun vs H Q _ => ∃ (a : Addr) (as : List Addr) (Rs : List (Gang × Int)) (z : Str), vs = [.ref a, .str z] ∧ SqL K H a (as.map V.ref) ∧ Paired (RowAt H) as Rs ∧ Rs.length ≤ 100 ∧
  ∀ p bs H', Same H H' → H p = none → H' p = some (.lst (bs.map V.ref)) → Paired (RowAt H') bs (Rs.filter fun R => decide (R.1.guild = z)) → Q (.ref p) H'
theorem PIn.same {K : PySem.W.Frag} {H H' : Hp} {du a : Addr} {dn : List Int} {as : List Addr} {Rs : List (Gang × Int)} (s : Same H H') (h : PIn K H du a dn as Rs) : PIn K H' du a dn as Rs :=
  ⟨same_seqT s h.due, h.d1, h.d8, s.seq h.rows, h.prs.mono fun _ _ x => x.same s, h.good, h.wlen⟩
theorem PIn.fw {K : PySem.W.Frag} {Ts : List Addr} {H H' : Hp} {du a : Addr} {dn : List Int} {as : List Addr} {Rs : List (Gang × Int)} (t : Tabs Ts H) (f : Fw Ts H H') (h : PIn K H du a dn as Rs) : PIn K H' du a dn as Rs :=
  ⟨f.seqT t h.due, h.d1, h.d8, f.seqL t h.rows, h.prs.mono fun _ _ x => x.kt (f.kt t), h.good, h.wlen⟩
theorem addL_len {xs ys : List Int} (h : ys.length = xs.length) : (addL xs ys).length = xs.length := by
  unfold addL
  rw [List.length_zipWith, h, Nat.min_self]
theorem whole_len (G : Gang) : G.whole.length = G.want.length := by
  unfold Gang.whole
  rw [List.length_map]
theorem partA_len {dn : List Int} : ∀ (Gs o l : List Gang) (ld : List Int), (partA dn Gs o l ld).1.length + (partA dn Gs o l ld).2.1.length = Gs.length + o.length + l.length
  | [], o, l, ld => by
    show o.length + l.length = 0 + o.length + l.length
    omega
  | G :: Gs, o, l, ld => by
    unfold partA
    split
    · rw [partA_len Gs]
      simp only [List.length_append, List.length_cons, List.length_nil]
      omega
    · rw [partA_len Gs]
      simp only [List.length_append, List.length_cons, List.length_nil]
      omega
theorem partRs_len (dn : List Int) (Rs : List (Gang × Int)) : (partRs dn Rs).1.length + (partRs dn Rs).2.1.length = Rs.length := by
  unfold partRs
  rw [partA_len, List.length_map, (ord_perm Rs).length_eq]
  rfl
theorem partRs_perm (dn : List Int) {Rs Ss : List (Gang × Int)} (h : (Rs.map (·.2)).Nodup) (p : Ss.Perm Rs) : partRs dn Ss = partRs dn Rs := by
  unfold partRs
  rw [ord_perm_eq h p]
end My

namespace My
open PySem PySem.Spec PyProof.Rows L2 GX GxR
abbrev s_scLPart : Stmt := topS 32
abbrev n_scLPart : List Str := ["_law_due_here", "_law_rows", "_law_own", "_law_lent", "_law_number", "_law_borne", "_law_gang_here", "_law_more", "_law_k"]
theorem scLPart : FnScope n_scLPart ["_law_due_here", "_law_rows"] (defScope s_scLPart) := ⟨rfl, rfl, rfl, by decide +kernel, rfl, by decide +kernel, by decide +kernel⟩
abbrev s_scLGuild : Stmt := topS 34
abbrev n_scLGuild : List Str := ["_law_rows", "_law_guild_here", "_law_row"]
theorem scLGuild : FnScope n_scLGuild ["_law_rows", "_law_guild_here"] (defScope s_scLGuild) := ⟨rfl, rfl, rfl, by decide +kernel, rfl, by decide +kernel, by decide +kernel⟩
section
variable {P : Program} {w : World} {K : PySem.W.Frag} {mg : Str → Option Value} {base : Heap}
theorem ok_lguild {f : Addr} {fd : FuncData} {k : Nat} (F : Fun K "_law_guild" "_law_guild" s_scLGuild f fd) : FnOk P w K mg base CX0 (k + 1) f fd ["_law_rows", "_law_guild_here"] (spLGuild K) := by
  refine F.ok scLGuild (fun vs H Q E h => ?_) (fun cdv A outer s H vs Q E hr h => ?_)
  · obtain ⟨a, as, Rs, z, rfl, _⟩ := h
    rfl
  · obtain ⟨a, as, Rs, z, rfl, hS, hP, hl, q⟩ := h
    refine ⟨_, (pss_one (ps_ret (pe_lc (own := [("_law_row", 2)]) (g := (gName 2)) rfl scLGuild.nd (pi_list (pv 0)) (blkOk_by (own := [("_law_row", 2)]) (N := n_scLGuild) (sc := defScope s_scLGuild) (by decide +kernel)) (fun _ _ _ _ _ => (pg_name (i := 2) scLGuild.nd rfl (.inl rfl))) (fun _ _ _ _ _ => pts_one (pt_cmpR op_eq (pe_ix (r := rIxT K) ix_tup (pe_ix (r := rIxT K) ix_tup (pv 2) pe_int (fun _ _ => rfl)) pe_int (fun _ _ => rfl)) (pv 1) (nomark _))) (fun _ _ _ _ _ => (pv 2))))), ?_⟩
    have la : as.length = Rs.length := hP.length
    refine ⟨_, rfl, a, rfl, ⟨_, hS⟩, fun D nD => ?_⟩
    refine lc_list (K := K) (a := a) (xs := as.map V.ref) (fun j H' => Same H H' ∧ ∃ bs : List Addr, H' D = some (.lst (bs.map V.ref)) ∧ bs.length ≤ j ∧ Paired (RowAt H') bs ((Rs.take j).filter fun R => decide (R.1.guild = z)))
      ⟨same_upd nD, [], upd_same, Nat.le_refl _, .nil⟩ (fun j H' _ p => p.1.seq hS) (fun j x H2 hx p => ?_) (fun H2 p => ?_)
    · obtain ⟨p1, bs, p2, p3, p4⟩ := p
      obtain ⟨ra, hra, rfl⟩ := map_get hx
      have hj : j < as.length := (List.getElem?_eq_some_iff.mp hra).1
      obtain ⟨R, hR, rat⟩ := paired_get hP hra
      have r2 := rat.same p1
      obtain ⟨g, h1, wa, h2, _⟩ := id r2
      refine ⟨rfl, ?_⟩
      refine ⟨_, rfl, ra, _, 0, .ref g, rfl, rfl, SqT.of h1, rfl, g, _, 1, .str R.1.guild, rfl, rfl, SqT.of h2, rfl, _, rfl, rfl, _, rfl, ite2 (fun e => ?_) (fun e => ?_)⟩
      · have e' : R.1.guild = z := by
          have := of_decide_eq_true e
          injection this
        have kt : KTu H2 (upd H2 D (.lst (bs.map V.ref ++ [V.ref ra]))) := kt_put p2 (fun xs z => by cases z)
        refine ⟨_, rfl, _, p2, ?_, same_put p1 nD, bs ++ [ra], ?_, ?_, ?_⟩
        · rw [List.length_map]
          exact small63 (by omega)
        · rw [upd_same, List.map_append]
          rfl
        · rw [List.length_append]
          show bs.length + 1 ≤ j + 1
          omega
        · rw [List.take_add_one, hR, List.filter_append]
          have ef : (some R).toList.filter (fun R : Gang × Int => decide (R.1.guild = z)) = [R] := by
            simp [e']
          rw [ef]
          exact Paired.snoc (p4.mono fun _ _ x => x.kt kt) (r2.kt kt)
      · have e' : ¬ R.1.guild = z := fun q => e (decide_eq_true (congrArg V.str q))
        refine ⟨p1, bs, p2, by omega, ?_⟩
        rw [List.take_add_one, hR, List.filter_append]
        have ef : (some R).toList.filter (fun R : Gang × Int => decide (R.1.guild = z)) = [] := by
          simp [e']
        rw [ef, List.append_nil]
        exact p4
    · obtain ⟨p1, bs, p2, p3, p4⟩ := p
      rw [List.length_map, List.take_of_length_le (by omega)] at p4
      exact q D bs H2 p1 nD p2 p4
theorem ok_lpart {f fO : Addr} {fd fdO : FuncData} {k : Nat} (F : Fun K "_law_parted" "_law_parted" s_scLPart f fd) (X : Txt mg)
    (GO : FnOk P w K mg base CX0 k fO fdO ["_law_rows"] (spOrder K)) (mO : mg "_law_order" = some (.ref fO)) (kO : PySem.W.keepIn K (.ref fO) = true) (bO : L2.Binds K fdO ["_law_rows"] []) :
    FnOk P w K mg base CX0 (k + 1) f fd ["_law_due_here", "_law_rows"] (spLPart K) := by
  refine F.ok scLPart (fun vs H Q E h => ?_) (fun cdv A outer s H vs Q E hr h => ?_)
  · obtain ⟨du, a, dn, as, Rs, rfl, _⟩ := h
    rfl
  · obtain ⟨du, a, dn, as, Rs, rfl, I, q⟩ := h
    have d1 := I.d1
    have d8 := I.d8
    have lR := I.good.len
    refine ⟨_, (pss_cons (ps_set (i := 2) scLPart.nd rfl (.inl rfl) (pe_lst pa_nil))
      (pss_cons (ps_set (i := 3) scLPart.nd rfl (.inl rfl) (pe_lst pa_nil))
      (pss_cons (ps_set (i := 5) scLPart.nd rfl (.inr rfl) (pe_lc (own := [("_law_number", 4)]) (g := (gName 4)) (tt := tYes) rfl scLPart.nd (pi_tup (pv 0)) (blkOk_by (own := [("_law_number", 4)]) (N := n_scLPart) (sc := defScope s_scLPart) (by decide +kernel)) (fun _ _ _ _ _ => (pg_name (i := 4) scLPart.nd rfl (.inl rfl))) (fun _ _ _ _ _ => pts_nil) (fun _ _ _ _ _ => pe_int)))
      (C8.pss_cut (ps_for PassesOwn.never rfl (pi_list (pe_call GO hr (by rfl) mO kO bO .nil pass0 (pa_cons (pv 1) pa_nil))) (pg_tup rfl (pgs_cons (pg_name (i := 6) scLPart.nd rfl (.inr rfl)) (pgs_cons (pg_name (i := 4) scLPart.nd rfl (.inl rfl)) pgs_nil)))
        (pss_cons (ps_set (i := 7) scLPart.nd rfl (.inr rfl) (pe_lc (own := [("_law_k", 8)]) (g := (gName 8)) (tt := tYes) rfl scLPart.nd (pi_range1 (by rfl) X.range (pa_cons (pe_callB call_len_seq (by rfl) X.len PySem.boot_len (pa_cons (pv 0) pa_nil)) pa_nil)) (blkOk_by (own := [("_law_k", 8)]) (N := n_scLPart) (sc := defScope s_scLPart) (by decide +kernel)) (fun _ _ _ _ _ => (pg_name (i := 8) scLPart.nd rfl (.inl rfl))) (fun _ _ _ _ _ => pts_nil) (fun _ _ _ _ _ => (pe_op op_add (pe_ix (r := rIxL K) ix_list (pv 5) (pv 8) (fun _ _ => rfl)) (pe_op op_mul (pe_ix (r := rIxT K) ix_tup (pv 6) pe_int (fun _ _ => rfl)) (pe_ix (r := rIxT K) ix_tup (pe_ix (r := rIxT K) ix_tup (pv 6) pe_int (fun _ _ => rfl)) (pv 8) (fun _ _ => rfl)))))))
        (pss_one (ps_if (pt_val (pe_callB (cr_all rfl) (by rfl) X.all (by decide +kernel) (pa_cons (pe_lc (own := [("_law_k", 8)]) (g := (gName 8)) (tt := tYes) rfl scLPart.nd (pi_range1 (by rfl) X.range (pa_cons (pe_callB call_len_seq (by rfl) X.len PySem.boot_len (pa_cons (pv 0) pa_nil)) pa_nil)) (blkOk_by (own := [("_law_k", 8)]) (N := n_scLPart) (sc := defScope s_scLPart) (by decide +kernel)) (fun _ _ _ _ _ => (pg_name (i := 8) scLPart.nd rfl (.inl rfl))) (fun _ _ _ _ _ => pts_nil) (fun _ _ _ _ _ => (pe_cmpR op_le (pe_ix (r := rIxL K) ix_list (pv 7) (pv 8) (fun _ _ => rfl)) (pe_ix (r := rIxT K) ix_tup (pv 0) (pv 8) (fun _ _ => rfl)) (nomark _)))) pa_nil)))
          (pss_cons (ps_expr (pe_bm PySem.F.plainAttrs_list PySem.F.slot_list_append PySem.F.type_list_append mt_append (pv 2) (pa_cons (pe_ix ix_tup (pv 6) pe_int (fun _ _ => rfl)) pa_nil)))
          (pss_one (ps_set (i := 5) scLPart.nd rfl (.inr rfl) (pv 7))))
          (pss_one (ps_expr (pe_bm PySem.F.plainAttrs_list PySem.F.slot_list_append PySem.F.type_list_append mt_append (pv 3) (pa_cons (pe_ix ix_tup (pv 6) pe_int (fun _ _ => rfl)) pa_nil))))))))
      (pss_one (ps_ret (pe_tup (pa_cons (pv 2) (pa_cons (pv 3) (pa_cons (pv 5) pa_nil)))))))))), ?_⟩
    refine ⟨by show 0 ≤ sizeLine; decide, fun o no => ⟨by show 0 ≤ sizeLine; decide, fun l nl => ?_⟩⟩
    have ol : o ≠ l := fun z => by
      rw [← z, upd_same] at nl
      cases nl
    have fl : H l = none := (same_upd no).free nl
    have s0 : Same H (upd (upd H o (.lst [])) l (.lst [])) := (same_upd no).trans (same_upd nl)
    have eo0 : upd (upd H o (.lst [])) l (.lst []) o = some (.lst []) := by rw [upd_ne ol, upd_same]
    have el0 : upd (upd H o (.lst [])) l (.lst []) l = some (.lst []) := upd_same
    generalize upd (upd H o (.lst [])) l (.lst []) = H0 at s0 eo0 el0 ⊢
    -- borne
    refine ⟨_, rfl, du, rfl, ⟨_, same_seqT s0 I.due⟩, fun B nB => ?_⟩
    refine lc_tup (K := K) (a := du) (xs := dn.map V.int) (fun j H' => Same H0 H' ∧ H' B = some (.lst ((zeros j).map V.int)))
      ⟨same_upd nB, upd_same⟩ (fun j H' _ p => same_seqT (s0.trans p.1) I.due) (fun j x H1 hx p => ?_) (fun H1 p => ?_)
    · obtain ⟨p1, p2⟩ := p
      have hj : j < (dn.map V.int).length := (List.getElem?_eq_some_iff.mp hx).1
      rw [List.length_map] at hj
      refine ⟨rfl, _, p2, ?_, same_put p1 nB, ?_⟩
      · unfold zeros
        rw [List.length_map, List.length_replicate]
        exact small63 (by omega)
      · unfold zeros
        rw [upd_same, List.replicate_succ', List.map_append]
        rfl
    obtain ⟨s1, eB⟩ := p
    rw [List.length_map] at eB
    have s01 := s0.trans s1
    have I1 := I.same s01
    have fB : H B = none := s0.free nB
    refine ⟨fun σ H' => ∃ (y4 y6 y7 : Option V) (b : Addr), σ = [some (.ref du), some (.ref a), some (.ref o), some (.ref l), y4, some (.ref b), y6, y7, none] ∧ Same H H' ∧ H b = none ∧ H' o = some (.lst (((partRs dn Rs).1.map (·.name)).map V.str)) ∧ H' l = some (.lst (((partRs dn Rs).2.1.map (·.name)).map V.str)) ∧ H' b = some (.lst ((partRs dn Rs).2.2.map V.int)), ?_, fun σ H' hm => ?_⟩
    · refine ⟨_, rfl, a, as, Rs, rfl, I1.rows, I1.prs, I1.good, fun p H2 cs s2 np ep pc => ⟨p, rfl, ⟨_, SqL.of ep⟩, ?_⟩⟩
      have s02 := s01.trans s2
      have lcs : cs.length = Rs.length := by
        rw [pc.length, (ord_perm Rs).length_eq]
      have po : o ≠ p := fun z => by
        have h1 := s1 _ _ eo0
        rw [z, np] at h1
        cases h1
      have pl : l ≠ p := fun z => by
        have h1 := s1 _ _ el0
        rw [z, np] at h1
        cases h1
      refine for_list (xs := cs.map V.ref) (fun i σ H' => ∃ (y4 y6 y7 : Option V) (b : Addr) (oG lG : List Gang) (ld : List Int), σ = [some (.ref du), some (.ref a), some (.ref o), some (.ref l), y4, some (.ref b), y6, y7, none] ∧ Same H H' ∧ KTu H2 H' ∧ H b = none ∧ b ≠ o ∧ b ≠ l ∧ H' p = some (.lst (cs.map V.ref)) ∧
          H' o = some (.lst ((oG.map (·.name)).map V.str)) ∧ H' l = some (.lst ((lG.map (·.name)).map V.str)) ∧ H' b = some (.lst (ld.map V.int)) ∧ ld.length = dn.length ∧ oG.length + lG.length = i ∧ partA dn (((ord Rs).map (·.1)).drop i) oG lG ld = partRs dn Rs)
        ⟨none, none, none, B, [], [], zeros dn.length, rfl, s02, KTu.refl _, fB, (fun z => by rw [z, eo0] at nB; cases nB), (fun z => by rw [z, el0] at nB; cases nB), ep, (s1.trans s2) _ _ eo0, (s1.trans s2) _ _ el0, s2 _ _ eB, by unfold zeros; rw [List.length_replicate], rfl, rfl⟩ (fun i σ H' _ p => ?_) (fun i x σ H3 hx p => ?_) (fun σ H3 p => ?_)
      · obtain ⟨_, _, _, _, _, _, _, _, _, _, _, _, _, p4, _⟩ := p
        exact SqL.of p4
      · obtain ⟨y4, y6, y7, b, oG, lG, ld, rfl, sH, kt, fb, bo, bl, e1, e2, e3, e6, e7, e8, e9⟩ := p
        obtain ⟨ra, hra, rfl⟩ := map_get hx
        have hi : i < cs.length := (List.getElem?_eq_some_iff.mp hra).1
        obtain ⟨R, hRo, rat⟩ := paired_get pc hra
        have hR : R ∈ Rs := (ord_perm Rs).mem_iff.mp (List.mem_of_getElem? hRo)
        have hG : ((ord Rs).map (·.1))[i]? = some R.1 := by
          rw [List.getElem?_map, hRo]
          rfl
        have ft := I.good.fit R hR
        have wl := I.wlen R hR
        have m0 := ft.m0
        have m60 := ft.m60
        rw [partA_step hG] at e9
        obtain ⟨g, r1, wa, g1, g2⟩ := rat.kt kt
        refine ⟨ra, _, rfl, SqT.of r1, rfl, _, _, rfl, _, _, rfl, rfl, ?_⟩
        -- more
        refine ⟨_, rfl, du, _, rfl, .inr (same_seqT sH I.due), (dn.length : Int), by rw [List.length_map], by omega, by omega, fun M nM => ?_⟩
        rw [Int.toNat_natCast]
        refine lc_range (lo := 0) (n := dn.length) (fun j H' => Same H3 H' ∧ H' M = some (.lst (((addL ld R.1.whole).take j).map V.int)))
          ⟨same_upd nM, upd_same⟩ (fun j H4 hj p => ?_) (fun H4 p => ?_)
        · obtain ⟨q1, q2⟩ := p
          have hld : j < ld.length := by omega
          have hw : j < R.1.want.length := by omega
          refine ⟨rfl, ?_⟩
          refine ⟨_, rfl, _, rfl, b, _, _, .int ld[j], rfl, rfl, SqL.of (q1 _ _ e6), at_ints (List.getElem?_eq_getElem hld), _, rfl, g, _, 3, .int R.1.many, rfl, rfl, SqT.of (q1 _ _ g1), rfl, _, rfl, g, _, 4, .ref wa, rfl, rfl, SqT.of (q1 _ _ g1), rfl, _, rfl, wa, _, _, .int R.1.want[j], rfl, rfl, SqT.of (q1 _ _ g2), at_ints (List.getElem?_eq_getElem hw),
            R.1.many, R.1.want[j], rfl, rfl, .inl ⟨by omega, by omega⟩, _, _, rfl, rfl, ?_⟩
          refine ⟨_, q2, ?_, same_put q1 nM, ?_⟩
          · rw [List.length_map, List.length_take]
            exact small63 (by omega)
          · have ew : R.1.whole[j]? = some (R.1.many * R.1.want[j]) := by
              unfold Gang.whole
              rw [List.getElem?_map, List.getElem?_eq_getElem hw, Int.mul_comm]
              rfl
            unfold addL
            rw [upd_same, zw_take (List.getElem?_eq_getElem hld) ew, List.map_append]
            rfl
        obtain ⟨q1, q2⟩ := p
        have lm : (addL ld R.1.whole).length = dn.length := by rw [addL_len (by rw [whole_len, wl, e7]), e7]
        rw [List.take_of_length_le (by omega)] at q2
        -- does it fit
        refine ⟨_, rfl, du, _, rfl, .inr (same_seqT (sH.trans q1) I.due), (dn.length : Int), by rw [List.length_map], by omega, by omega, fun D nD => ?_⟩
        rw [Int.toNat_natCast]
        refine lc_range (lo := 0) (n := dn.length) (fun j H' => Same H4 H' ∧ H' D = some (.lst (((List.zipWith (fun a b : Int => decide (a ≤ b)) (addL ld R.1.whole) dn).take j).map V.bl)))
          ⟨same_upd nD, upd_same⟩ (fun j H5 hj p => ?_) (fun H5 p => ?_)
        · obtain ⟨q3, q4⟩ := p
          have hm : j < (addL ld R.1.whole).length := by omega
          refine ⟨rfl, ?_⟩
          refine ⟨_, rfl, _, rfl, M, _, _, .int (addL ld R.1.whole)[j], rfl, rfl, SqL.of (q3 _ _ q2), at_ints (List.getElem?_eq_getElem hm), _, rfl, _, rfl, du, _, _, .int dn[j], rfl, rfl, same_seqT (sH.trans (q1.trans q3)) I.due, at_ints (List.getElem?_eq_getElem hj), _, _, rfl, rfl, ?_⟩
          refine ⟨_, q4, ?_, same_put q3 nD, ?_⟩
          · rw [List.length_map, List.length_take]
            exact small63 (by omega)
          · rw [upd_same, List.take_add_one, List.getElem?_zipWith, List.getElem?_eq_getElem hm, List.getElem?_eq_getElem hj, List.map_append]
            rfl
        obtain ⟨q3, q4⟩ := p
        rw [List.take_of_length_le (by rw [List.length_zipWith]; omega)] at q4
        have s35 : Same H3 H5 := q1.trans q3
        have sH5 := sH.trans s35
        have e1' := s35 _ _ e1
        have e2' := s35 _ _ e2
        have e3' := s35 _ _ e3
        have e6' := s35 _ _ e6
        have g1' := s35 _ _ g1
        have q2' := q3 _ _ q2
        have Mo : M ≠ o := fun z => by rw [z, e2] at nM; cases nM
        have Ml : M ≠ l := fun z => by rw [z, e3] at nM; cases nM
        have fM : H M = none := sH.free nM
        refine ⟨D, _, rfl, SqL.of q4, _, rfl, ite2 (fun hf => ?_) (fun hf => ?_)⟩
        · have hf' : fitB (addL ld R.1.whole) dn = true := hf
          rw [if_pos hf'] at e9
          refine ⟨_, rfl, .inl ⟨rfl, _, SqL.of e2'⟩, _, rfl, g, _, 0, .str R.1.name, rfl, rfl, SqT.of g1', rfl, o, _, _, rfl, rfl, e2', ?_, ?_⟩
          · rw [List.length_map, List.length_map]
            exact small63 (by omega)
          have kp : KTu H5 (upd H5 o (.lst ((oG.map (·.name)).map V.str ++ [V.str R.1.name]))) := kt_put e2' (fun xs z => by cases z)
          refine ⟨_, rfl, _, _, _, M, oG ++ [R.1], lG, addL ld R.1.whole, rfl, same_put sH5 no, (kt.trans (Same.kt s35)).trans kp, fM, Mo, Ml, by rw [upd_ne po.symm]; exact e1', by rw [upd_same, List.map_append, List.map_append]; rfl, by rw [upd_ne ol.symm]; exact e3', by rw [upd_ne Mo]; exact q2', lm, ?_, e9⟩
          rw [List.length_append]
          show oG.length + 1 + lG.length = i + 1
          omega
        · have hf' : ¬ fitB (addL ld R.1.whole) dn = true := hf
          rw [if_neg hf'] at e9
          refine ⟨_, rfl, .inl ⟨rfl, _, SqL.of e3'⟩, _, rfl, g, _, 0, .str R.1.name, rfl, rfl, SqT.of g1', rfl, l, _, _, rfl, rfl, e3', ?_, ?_⟩
          · rw [List.length_map, List.length_map]
            exact small63 (by omega)
          have kp : KTu H5 (upd H5 l (.lst ((lG.map (·.name)).map V.str ++ [V.str R.1.name]))) := kt_put e3' (fun xs z => by cases z)
          refine ⟨_, _, _, b, oG, lG ++ [R.1], ld, rfl, same_put sH5 fl, (kt.trans (Same.kt s35)).trans kp, fb, bo, bl, by rw [upd_ne pl.symm]; exact e1', by rw [upd_ne ol]; exact e2', by rw [upd_same, List.map_append, List.map_append]; rfl, by rw [upd_ne bl]; exact e6', e7, ?_, e9⟩
          rw [List.length_append]
          show oG.length + (lG.length + 1) = i + 1
          omega
      · obtain ⟨y4, y6, y7, b, oG, lG, ld, rfl, sH, kt, fb, bo, bl, e1, e2, e3, e6, e7, e8, e9⟩ := p
        rw [List.length_map, List.drop_eq_nil_of_le (by rw [List.length_map, (ord_perm Rs).length_eq]; omega)] at e9
        have e9' : (oG, lG, ld) = partRs dn Rs := e9
        rw [← e9']
        exact ⟨_, _, _, b, rfl, sH, fb, e2, e3, e6⟩
    · obtain ⟨y4, y6, y7, b, rfl, sH, fb, h1, h2, h3⟩ := hm
      refine ⟨_, rfl, _, rfl, _, rfl, by show 3 ≤ sizeLine; decide, fun t nt => ?_⟩
      exact q t o l b _ (sH.trans (same_upd nt)) (sH.free nt) upd_same no fl fb (same_upd nt _ _ h1) (same_upd nt _ _ h2) (same_upd nt _ _ h3)
end
end My

namespace My
open PySem PySem.Spec PyProof.Rows L2 GX GxR
abbrev s_scRank : Stmt := topS 8
abbrev n_scRank : List Str := ["gang"]
theorem scRank : FnScope n_scRank ["gang"] (defScope s_scRank) := ⟨rfl, rfl, rfl, by decide +kernel, rfl, by decide +kernel, by decide +kernel⟩
abbrev s_scPlace : Stmt := topS 10
abbrev n_scPlace : List Str := ["row", "gang", "number"]
theorem scPlace : FnScope n_scPlace ["row"] (defScope s_scPlace) := ⟨rfl, rfl, rfl, by decide +kernel, rfl, by decide +kernel, by decide +kernel⟩
abbrev s_scInOrd : Stmt := topS 11
abbrev n_scInOrd : List Str := ["rows", "gang", "number"]
theorem scInOrd : FnScope n_scInOrd ["rows"] (defScope s_scInOrd) := ⟨rfl, rfl, rfl, by decide +kernel, rfl, by decide +kernel, by decide +kernel⟩
section
variable {P : Program} {w : World} {K : PySem.W.Frag} {mg : Str → Option Value} {base : Heap}
theorem ok_rank {f : Addr} {fd : FuncData} {k : Nat} (F : Fun K "rank_of" "rank_of" s_scRank f fd) : FnOk P w K mg base CX0 (k + 1) f fd ["gang"] spRank := by
  refine F.ok scRank (fun vs H Q E h => ?_) (fun cdv A outer s H vs Q E hr h => ?_)
  · obtain ⟨g, G, rfl, _⟩ := h
    rfl
  · obtain ⟨g, G, rfl, ⟨wa, h1, _⟩, q⟩ := h
    refine ⟨_, (pss_one (ps_ret (pe_ix ix_tup (pv 0) pe_int (fun _ _ => rfl)))), ?_⟩
    exact ⟨_, rfl, g, _, 2, .int G.rank, rfl, rfl, SqT.of h1, rfl, q⟩
theorem ok_place {f fR : Addr} {fd fdR : FuncData} {k : Nat} (F : Fun K "place_in_order" "place_in_order" s_scPlace f fd)
    (GR : FnOk P w K mg base CX0 k fR fdR ["gang"] spRank) (mR : mg "rank_of" = some (.ref fR)) (kR : PySem.W.keepIn K (.ref fR) = true) (bR : L2.Binds K fdR ["gang"] []) :
    FnOk P w K mg base CX0 (k + 1) f fd ["row"] spPlace := by
  refine F.ok scPlace (fun vs H Q E h => ?_) (fun cdv A outer s H vs Q E hr h => ?_)
  · obtain ⟨r, R, rfl, _⟩ := h
    rfl
  · obtain ⟨r, R, rfl, ⟨g, h1, h2⟩, q⟩ := h
    refine ⟨_, (pss_cons (ps_asg (pv 0) (pg_tup rfl (pgs_cons (pg_name (i := 1) scPlace.nd rfl (.inl rfl)) (pgs_cons (pg_name (i := 2) scPlace.nd rfl (.inl rfl)) pgs_nil))))
      (pss_one (ps_ret (pe_tup (pa_cons (pe_un un_neg (pe_call GR hr (by rfl) mR kR bR .nil pass0 (pa_cons (pv 1) pa_nil))) (pa_cons (pv 2) pa_nil)))))), ?_⟩
    refine ⟨_, rfl, r, _, rfl, SqT.of h1, rfl, _, _, rfl, _, _, rfl, rfl, ?_⟩
    exact ⟨_, rfl, g, R.1, rfl, h2, R.1.rank, rfl, _, rfl, by show 2 ≤ sizeLine; decide, fun t nt => q t _ (same_upd nt) upd_same⟩
theorem ok_inord {f fP : Addr} {fd fdP : FuncData} {k : Nat} (F : Fun K "in_order" "in_order" s_scInOrd f fd) (mSorted : mg "sorted" = none)
    (GP : FnOk P w K mg base CX0 k fP fdP ["row"] spPlace) (mP : mg "place_in_order" = some (.ref fP)) (bP : L2.Binds K fdP ["row"] []) :
    FnOk P w K mg base CX0 (k + 3) f fd ["rows"] (spInOrd K) := by
  refine F.ok scInOrd (fun vs H Q E h => ?_) (fun cdv A outer s H vs Q E hr h => ?_)
  · obtain ⟨a, as, Rs, rfl, _⟩ := h
    rfl
  · obtain ⟨a, as, Rs, rfl, hS, hP, hl, q⟩ := h
    refine ⟨_, (pss_one (ps_ret (pe_lc (own := [("gang", 1), ("number", 2)]) (g := (gTup K 2 (gCons (gName 1) (gCons (gName 2) gNil)))) (tt := tYes) rfl scInOrd.nd (pi_list (pe_callBK (cr_sortK GP hr bP) (by rfl) mSorted (by decide +kernel) (pa_cons (pv 0) pa_nil) (pk_cons (pe_glob (v := .ref fP) rfl mP rfl) pk_nil))) (blkOk_by (own := [("gang", 1), ("number", 2)]) (N := n_scInOrd) (sc := defScope s_scInOrd) (by decide +kernel)) (fun _ _ _ _ _ => (pg_tup rfl (pgs_cons (pg_name (i := 1) scInOrd.nd rfl (.inl rfl)) (pgs_cons (pg_name (i := 2) scInOrd.nd rfl (.inl rfl)) pgs_nil)))) (fun _ _ _ _ _ => pts_nil) (fun _ _ _ _ _ => (pv 1))))), ?_⟩
    have la : as.length = Rs.length := hP.length
    obtain ⟨ps, z1, z2, z3⟩ := paired_zip hP
    obtain ⟨qs, w1, w2, w3⟩ := sort_rows z3
    rw [z1] at w2
    rw [z2] at w3
    refine ⟨_, rfl, a, _, kyOf H, rfl, rfl, hS, by rw [List.length_map]; omega, key_rows hP, fun p H1 s1 np e1 => ⟨p, rfl, ⟨_, SqL.of e1⟩, fun D nD => ?_⟩⟩
    rw [w2] at e1
    have at_ : ∀ q ∈ qs, RowAt H q.1 q.2 := fun q hq => z3 q (w1.mem_iff.mp hq)
    have lq : qs.length ≤ 1000 := by
      have := congrArg List.length z2
      rw [List.length_map] at this
      rw [w1.length_eq]
      omega
    refine lc_list (K := K) (a := p) (xs := (qs.map (·.1)).map V.ref) (fun j H' => Same H1 H' ∧ ∃ bs : List Addr, H' D = some (.lst (bs.map V.ref)) ∧ Paired (GangAt H') bs ((qs.take j).map (·.2.1)))
      ⟨same_upd nD, [], upd_same, .nil⟩ (fun j H' _ p => SqL.of (p.1 _ _ e1)) (fun j x H2 hx p => ?_) (fun H2 p => ?_)
    · obtain ⟨p1, bs, p2, p3⟩ := p
      obtain ⟨ra, hra, rfl⟩ := map_get hx
      rw [List.getElem?_map] at hra
      cases eq : qs[j]? with
      | none =>
        rw [eq] at hra
        cases hra
      | some qq =>
        rw [eq] at hra
        cases hra
        have hj : j < qs.length := (List.getElem?_eq_some_iff.mp eq).1
        obtain ⟨g, h1, h2⟩ := ((at_ qq (List.mem_of_getElem? eq)).same s1).same p1
        refine ⟨qq.1, _, rfl, SqT.of h1, rfl, _, _, rfl, _, _, rfl, rfl, rfl, ?_⟩
        have kt : KTu H2 (upd H2 D (.lst (bs.map V.ref ++ [V.ref g]))) := kt_put p2 (fun xs z => by cases z)
        refine ⟨_, rfl, _, p2, ?_, same_put p1 nD, bs ++ [g], ?_, ?_⟩
        · rw [List.length_map, p3.length, List.length_map, List.length_take]
          exact small1000 (by omega)
        · rw [upd_same, List.map_append]
          rfl
        · rw [List.take_add_one, eq, List.map_append]
          exact Paired.snoc (p3.mono fun _ _ x => x.kt kt) (h2.kt kt)
    · obtain ⟨p1, bs, p2, p3⟩ := p
      rw [List.length_map, List.length_map, List.take_of_length_le (Nat.le_refl _)] at p3
      refine q D H2 bs (s1.trans p1) (s1.free nD) p2 ?_
      rw [← w3, List.map_map]
      exact p3
end
end My

namespace My
open PySem PySem.Spec PyProof.Rows L2 GX GxR
abbrev s_scNothing : Stmt := topS 1
abbrev n_scNothing : List Str := ["wares"]
theorem scNothing : FnScope n_scNothing ["wares"] (defScope s_scNothing) := ⟨rfl, rfl, rfl, by decide +kernel, rfl, by decide +kernel, by decide +kernel⟩
abbrev s_scSum : Stmt := topS 2
abbrev n_scSum : List Str := ["one", "other", "a", "b"]
theorem scSum : FnScope n_scSum ["one", "other"] (defScope s_scSum) := ⟨rfl, rfl, rfl, by decide +kernel, rfl, by decide +kernel, by decide +kernel⟩
abbrev s_scFits : Stmt := topS 3
abbrev n_scFits : List Str := ["one", "other", "a", "b"]
theorem scFits : FnScope n_scFits ["one", "other"] (defScope s_scFits) := ⟨rfl, rfl, rfl, by decide +kernel, rfl, by decide +kernel, by decide +kernel⟩
abbrev s_scTimes : Stmt := topS 4
abbrev n_scTimes : List Str := ["one", "n", "a"]
theorem scTimes : FnScope n_scTimes ["one", "n"] (defScope s_scTimes) := ⟨rfl, rfl, rfl, by decide +kernel, rfl, by decide +kernel, by decide +kernel⟩
abbrev s_scWhole : Stmt := topS 9
abbrev n_scWhole : List Str := ["gang", "name", "guild", "rank", "many", "want", "how", "length"]
theorem scWhole : FnScope n_scWhole ["gang"] (defScope s_scWhole) := ⟨rfl, rfl, rfl, by decide +kernel, rfl, by decide +kernel, by decide +kernel⟩
abbrev s_scGName : Stmt := topS 6
abbrev n_scGName : List Str := ["gang"]
theorem scGName : FnScope n_scGName ["gang"] (defScope s_scGName) := ⟨rfl, rfl, rfl, by decide +kernel, rfl, by decide +kernel, by decide +kernel⟩
abbrev s_scPartG : Stmt := topS 15
abbrev n_scPartG : List Str := ["due", "rows", "own", "lent", "load", "gang", "more"]
theorem scPartG : FnScope n_scPartG ["due", "rows"] (defScope s_scPartG) := ⟨rfl, rfl, rfl, by decide +kernel, rfl, by decide +kernel, by decide +kernel⟩
abbrev s_scParted : Stmt := topS 16
abbrev n_scParted : List Str := ["due", "rows", "own", "lent", "load", "gang"]
theorem scParted : FnScope n_scParted ["due", "rows"] (defScope s_scParted) := ⟨rfl, rfl, rfl, by decide +kernel, rfl, by decide +kernel, by decide +kernel⟩
section
variable {P : Program} {w : World} {K : PySem.W.Frag} {mg : Str → Option Value} {base : Heap}
theorem ok_nothing {f : Addr} {fd : FuncData} {k : Nat} (F : Fun K "nothing_of" "nothing_of" s_scNothing f fd) : FnOk P w K mg base CX0 (k + 1) f fd ["wares"] spNothing := by
  refine F.ok scNothing (fun vs H Q E h => ?_) (fun cdv A outer s H vs Q E hr h => ?_)
  · obtain ⟨k, rfl, _⟩ := h
    rfl
  · obtain ⟨k, rfl, h1, h2, q⟩ := h
    refine ⟨_, pss_one (ps_ret (pe_op op_repU (pe_tup (pa_cons pe_int pa_nil)) (pv 0))), ?_⟩
    refine ⟨by show 1 ≤ sizeLine; decide, fun t nt => ⟨_, rfl, t, (k : Int), [.int 0], rfl, rfl, SqT.of upd_same, by simp, by omega, by omega, by decide, fun z => ?_, fun z p np => ?_⟩⟩
    · have z' : k = 1 := by omega
      subst z'
      exact q t _ (same_upd nt) nt upd_same
    · refine q p _ ((same_upd nt).trans (same_upd np)) ((same_upd nt).free np) ?_
      rw [upd_same, Int.toNat_natCast, rep_flat, List.map_replicate]
theorem ok_sum {f : Addr} {fd : FuncData} {k : Nat} (F : Fun K "amount_sum" "amount_sum" s_scSum f fd) (X : Txt mg) : FnOk P w K mg base CX0 (k + 1) f fd ["one", "other"] (spZipS K (· + ·)) := by
  refine F.ok scSum (fun vs H Q E h => ?_) (fun cdv A outer s H vs Q E hr h => ?_)
  · obtain ⟨a, b, xs, ys, rfl, _⟩ := h
    rfl
  · obtain ⟨a, b, xs, ys, rfl, hX, hY, hl, q⟩ := h
    refine ⟨_, (pss_one (ps_ret (pe_callTy call_tuple_of (by rfl) X.tup bt_tuple (pa_cons (pe_lc (own := [("a", 2), ("b", 3)]) (g := (gTup K 2 (gCons (gName 2) (gCons (gName 3) gNil)))) (tt := tYes) rfl scSum.nd (RZ.pi_zipA (by rfl) X.zip (pa_cons (pv 0) (pa_cons (pv 1) pa_nil))) (blkOk_by (own := [("a", 2), ("b", 3)]) (N := n_scSum) (sc := defScope s_scSum) (by decide +kernel)) (fun _ _ _ _ _ => (pg_tup rfl (pgs_cons (pg_name (i := 2) scSum.nd rfl (.inl rfl)) (pgs_cons (pg_name (i := 3) scSum.nd rfl (.inl rfl)) pgs_nil)))) (fun _ _ _ _ _ => pts_nil) (fun _ _ _ _ _ => (pe_op op_add (pv 2) (pv 3)))) pa_nil)))), ?_⟩
    refine ⟨_, rfl, _, rfl, a, b, _, _, rfl, .inr ⟨hX, hY, fun D nD => lc_it (walk_zipT (xs := xs.map V.int) (ys := ys.map V.int) rfl) (fun i H' => Same H H' ∧ H' D = some (.lst (((List.zipWith (· + ·) xs ys).take i).map V.int))) ⟨same_upd nD, upd_same⟩ (fun i H' _ p => ⟨same_seqT p.1 hX, same_seqT p.1 hY⟩) (fun i v H3 H4 hi p y => ?_) (fun H3 p => ?_)⟩⟩
    · obtain ⟨T1, x1, x2, rfl, nT, rfl, g1, g2⟩ := y
      obtain ⟨p1, p2⟩ := p
      obtain ⟨x, hx, rfl⟩ := get_int g1
      obtain ⟨y, hy, rfl⟩ := get_int g2
      have s3 : Same H3 (upd H3 T1 (.tup [.int x, .int y])) := same_upd nT
      have hi2 : i < xs.length := (List.getElem?_eq_some_iff.mp hx).1
      refine ⟨T1, [.int x, .int y], rfl, SqT.of upd_same, rfl, .int x, [.int y], rfl, .int y, [], rfl, rfl, rfl, ?_⟩
      refine ⟨_, rfl, _, rfl, x, y, rfl, rfl, _, s3 _ _ p2, ?_, same_putA (p1.trans s3) nD, ?_⟩
      · rw [List.length_map, List.length_take]
        exact small1000 (by omega)
      · rw [upd_same, zw_take hx hy, List.map_append]
        rfl
    · obtain ⟨p1, p2⟩ := p
      rw [List.take_of_length_le (by rw [List.length_zipWith, List.length_map, List.length_map]; exact Nat.le_refl _)] at p2
      refine ⟨D, _, rfl, .inl ⟨SqL.of p2, fun d nd => ?_⟩⟩
      exact q d _ (p1.trans (same_upd nd)) (p1.free nd) upd_same
theorem ok_fits {f c T : Addr} {fd : FuncData} {k : Nat} (F : FunC K "amount_fits" "amount_fits" s_scFits f fd c) (X : Txt mg) (TB : TabB base mg c T) : FnOk P w K mg base CX0 (k + 1) f fd ["one", "other"] (spFits K T) := by
  refine F.ok scFits (fun vs H Q E h => ?_) (fun A outer s H vs Q E hr h => ?_)
  · obtain ⟨a, b, xs, ys, rfl, _⟩ := h
    rfl
  · obtain ⟨a, b, xs, ys, rfl, hX, hY, hT, q⟩ := h
    refine ⟨_, pss_one (ps_ret (pe_allG (by rfl) X.all (by decide +kernel) (pgn_zip hr TB rfl (genS_of (by decide +kernel)) rfl (by decide) (by rfl) X.zip (pa_cons (pv 0) (pa_cons (pv 1) pa_nil)) (elt_le rfl rfl rfl) (fun _ => rfl)))), ?_⟩
    refine ⟨_, rfl, _, rfl, a, b, _, _, rfl, hX, hY, hT, zip_ints xs ys, _, zip_bl (op := fun i j => decide (i ≤ j)) (fun _ _ => rfl) xs ys, fun H2 hT2 => ?_⟩
    exact q H2 hT2.1 (kp_of_tabbed hT2)
theorem ok_times {f : Addr} {fd : FuncData} {k : Nat} (F : Fun K "amount_times" "amount_times" s_scTimes f fd) (X : Txt mg) : FnOk P w K mg base CX0 (k + 1) f fd ["one", "n"] (spTimesS K) := by
  refine F.ok scTimes (fun vs H Q E h => ?_) (fun cdv A outer s H vs Q E hr h => ?_)
  · obtain ⟨a, n, xs, rfl, _⟩ := h
    rfl
  · obtain ⟨a, n, xs, rfl, hX, hl, n0, n1, q⟩ := h
    refine ⟨_, (pss_one (ps_ret (pe_callTy call_tuple_of (by rfl) X.tup bt_tuple (pa_cons (pe_lc (own := [("a", 2)]) (g := (gName 2)) (tt := tYes) rfl scTimes.nd (pi_tup (pv 0)) (blkOk_by (own := [("a", 2)]) (N := n_scTimes) (sc := defScope s_scTimes) (by decide +kernel)) (fun _ _ _ _ _ => (pg_name (i := 2) scTimes.nd rfl (.inl rfl))) (fun _ _ _ _ _ => pts_nil) (fun _ _ _ _ _ => (pe_op op_mul (pv 2) (pv 1)))) pa_nil)))), ?_⟩
    refine ⟨_, rfl, a, rfl, ⟨_, hX⟩, fun D nD => ?_⟩
    refine lc_tup (K := K) (a := a) (xs := xs.map V.int) (fun i H' => Same H H' ∧ H' D = some (.lst (((xs.map (· * n)).take i).map V.int))) ⟨same_upd nD, upd_same⟩ (fun i H' _ p => same_seqT p.1 hX) (fun i v H3 hv p => ?_) (fun H3 p => ?_)
    · obtain ⟨p1, p2⟩ := p
      obtain ⟨x, hx, rfl⟩ := get_int hv
      have hi2 : i < xs.length := (List.getElem?_eq_some_iff.mp hx).1
      refine ⟨rfl, ?_⟩
      refine ⟨_, rfl, _, rfl, x, n, rfl, rfl, .inr ⟨by omega, by omega⟩, _, p2, ?_, same_putA p1 nD, ?_⟩
      · rw [List.length_map, List.length_take, List.length_map]
        exact small1000 (by omega)
      · rw [upd_same, List.take_add_one, List.getElem?_map, hx, List.map_append]
        rfl
    · obtain ⟨p1, p2⟩ := p
      rw [List.take_of_length_le (by rw [List.length_map, List.length_map]; exact Nat.le_refl _)] at p2
      refine ⟨D, _, rfl, .inl ⟨SqL.of p2, fun d nd => ?_⟩⟩
      exact q d _ (p1.trans (same_upd nd)) (p1.free nd) upd_same
theorem ok_whole {f fM : Addr} {fd fdM : FuncData} {k : Nat} (F : Fun K "whole_of" "whole_of" s_scWhole f fd)
    (GM : FnOk P w K mg base CX0 k fM fdM ["one", "n"] (spTimesS K)) (mM : mg "amount_times" = some (.ref fM)) (kM : PySem.W.keepIn K (.ref fM) = true) (bM : L2.Binds K fdM ["one", "n"] []) :
    FnOk P w K mg base CX0 (k + 1) f fd ["gang"] spWholeS := by
  refine F.ok scWhole (fun vs H Q E h => ?_) (fun cdv A outer s H vs Q E hr h => ?_)
  · obtain ⟨g, G, rfl, _⟩ := h
    rfl
  · obtain ⟨g, G, rfl, ⟨wa, h1, h2⟩, hl, n0, n1, q⟩ := h
    refine ⟨_, (pss_cons (ps_asg (pv 0) (pg_tup rfl (pgs_cons (pg_name (i := 1) scWhole.nd rfl (.inl rfl)) (pgs_cons (pg_name (i := 2) scWhole.nd rfl (.inl rfl)) (pgs_cons (pg_name (i := 3) scWhole.nd rfl (.inl rfl)) (pgs_cons (pg_name (i := 4) scWhole.nd rfl (.inl rfl)) (pgs_cons (pg_name (i := 5) scWhole.nd rfl (.inl rfl)) (pgs_cons (pg_name (i := 6) scWhole.nd rfl (.inl rfl)) (pgs_cons (pg_name (i := 7) scWhole.nd rfl (.inl rfl)) pgs_nil)))))))))
      (pss_one (ps_ret (pe_call GM hr (by rfl) mM kM bM .nil pass0 (pa_cons (pv 5) (pa_cons (pv 4) pa_nil)))))), ?_⟩
    refine ⟨_, rfl, g, _, rfl, SqT.of h1, rfl, _, _, rfl, _, _, rfl, _, _, rfl, _, _, rfl, _, _, rfl, _, _, rfl, _, _, rfl, rfl, ?_⟩
    exact ⟨_, rfl, _, rfl, wa, G.many, G.want, rfl, SqT.of h2, hl, n0, n1, q⟩
theorem ok_gname {f : Addr} {fd : FuncData} {k : Nat} (F : Fun K "name_of" "name_of" s_scGName f fd) : FnOk P w K mg base CX0 (k + 1) f fd ["gang"] spGName := by
  refine F.ok scGName (fun vs H Q E h => ?_) (fun cdv A outer s H vs Q E hr h => ?_)
  · obtain ⟨g, G, rfl, _⟩ := h
    rfl
  · obtain ⟨g, G, rfl, ⟨wa, h1, _⟩, q⟩ := h
    refine ⟨_, (pss_one (ps_ret (pe_ix ix_tup (pv 0) pe_int (fun _ _ => rfl)))), ?_⟩
    exact ⟨_, rfl, g, _, 0, .str G.name, rfl, rfl, SqT.of h1, rfl, q⟩
theorem ok_partg {f fN fP fF fW fI T1 T2 T3 : Addr} {fd fdN fdP fdF fdW fdI : FuncData} {k : Nat} {Ts : List Addr} (F : Fun K "parted_gangs" "parted_gangs" s_scPartG f fd) (X : Txt mg) (i1 : T1 ∈ Ts) (i2 : T2 ∈ Ts) (i3 : T3 ∈ Ts)
    (GN : FnOk P w K mg base CX0 k fN fdN ["wares"] spNothing) (mN : mg "nothing_of" = some (.ref fN)) (kN : PySem.W.keepIn K (.ref fN) = true) (bN : L2.Binds K fdN ["wares"] [])
    (GP : FnOk P w K mg base CX0 k fP fdP ["one", "other"] (spZip K T1 (· + ·))) (mP : mg "amount_sum" = some (.ref fP)) (kP : PySem.W.keepIn K (.ref fP) = true) (bP : L2.Binds K fdP ["one", "other"] [])
    (GF : FnOk P w K mg base CX0 k fF fdF ["one", "other"] (spFits K T2)) (mF : mg "amount_fits" = some (.ref fF)) (kF : PySem.W.keepIn K (.ref fF) = true) (bF : L2.Binds K fdF ["one", "other"] [])
    (GW : FnOk P w K mg base CX0 k fW fdW ["gang"] (spWhole T3)) (mW : mg "whole_of" = some (.ref fW)) (kW : PySem.W.keepIn K (.ref fW) = true) (bW : L2.Binds K fdW ["gang"] [])
    (GI : FnOk P w K mg base CX0 k fI fdI ["rows"] (spInOrd K)) (mI : mg "in_order" = some (.ref fI)) (kI : PySem.W.keepIn K (.ref fI) = true) (bI : L2.Binds K fdI ["rows"] []) :
    FnOk P w K mg base CX0 (k + 1) f fd ["due", "rows"] (spPartG K Ts) := by
  refine F.ok scPartG (fun vs H Q E h => ?_) (fun cdv A outer s H vs Q E hr h => ?_)
  · obtain ⟨du, a, dn, as, Rs, rfl, _⟩ := h
    rfl
  · obtain ⟨du, a, dn, as, Rs, rfl, I, tH, q⟩ := h
    have d1 := I.d1
    have d8 := I.d8
    have lR := I.good.len
    refine ⟨_, (pss_cons (ps_set (i := 2) scPartG.nd rfl (.inl rfl) (pe_lst pa_nil))
      (pss_cons (ps_set (i := 3) scPartG.nd rfl (.inl rfl) (pe_lst pa_nil))
      (pss_cons (ps_set (i := 4) scPartG.nd rfl (.inl rfl) (pe_call GN hr (by rfl) mN kN bN .nil pass0 (pa_cons (pe_callB call_len_seq (by rfl) X.len PySem.boot_len (pa_cons (pv 0) pa_nil)) pa_nil)))
      (C8.pss_cut (ps_for PassesOwn.never rfl (pi_list (pe_call GI hr (by rfl) mI kI bI .nil pass0 (pa_cons (pv 1) pa_nil))) (pg_name (i := 5) scPartG.nd rfl (.inl rfl))
        (pss_cons (ps_set (i := 6) scPartG.nd rfl (.inl rfl) (pe_call GP hr (by rfl) mP kP bP .nil pass0 (pa_cons (pv 4) (pa_cons (pe_call GW hr (by rfl) mW kW bW .nil pass0 (pa_cons (pv 5) pa_nil)) pa_nil))))
        (pss_one (ps_if (pt_val (pe_call GF hr (by rfl) mF kF bF .nil pass0 (pa_cons (pv 6) (pa_cons (pv 0) pa_nil))))
          (pss_cons (ps_expr (pe_bm PySem.F.plainAttrs_list PySem.F.slot_list_append PySem.F.type_list_append mt_append (pv 2) (pa_cons (pv 5) pa_nil)))
          (pss_one (ps_set (i := 4) scPartG.nd rfl (.inl rfl) (pv 6))))
          (pss_one (ps_expr (pe_bm PySem.F.plainAttrs_list PySem.F.slot_list_append PySem.F.type_list_append mt_append (pv 3) (pa_cons (pv 5) pa_nil))))))))
      (pss_one (ps_ret (pe_tup (pa_cons (pv 2) (pa_cons (pv 3) (pa_cons (pv 4) pa_nil)))))))))), ?_⟩
    refine ⟨by show 0 ≤ sizeLine; decide, fun o no => ⟨by show 0 ≤ sizeLine; decide, fun l nl => ?_⟩⟩
    have ol : o ≠ l := fun z => by
      rw [← z, upd_same] at nl
      cases nl
    have fl : H l = none := (same_upd no).free nl
    have s0 : Same H (upd (upd H o (.lst [])) l (.lst [])) := (same_upd no).trans (same_upd nl)
    have eo0 : upd (upd H o (.lst [])) l (.lst []) o = some (.lst []) := by rw [upd_ne ol, upd_same]
    have el0 : upd (upd H o (.lst [])) l (.lst []) l = some (.lst []) := upd_same
    generalize upd (upd H o (.lst [])) l (.lst []) = H0 at s0 eo0 el0 ⊢
    refine ⟨_, rfl, du, _, rfl, .inr (same_seqT s0 I.due), dn.length, by rw [List.length_map]; rfl, d1, by omega, fun z0 H1 s1 nz0 ez0 => ?_⟩
    have s01 := s0.trans s1
    have I1 := I.same s01
    refine ⟨fun σ H' => ∃ (y5 y6 : Option V) (e : Addr) (os ls : List Addr), σ = [some (.ref du), some (.ref a), some (.ref o), some (.ref l), some (.ref e), y5, y6] ∧ Fw Ts H H' ∧ H' o = some (.lst (os.map V.ref)) ∧ H' l = some (.lst (ls.map V.ref)) ∧
      Paired (GangAt H') os (partRs dn Rs).1 ∧ Paired (GangAt H') ls (partRs dn Rs).2.1 ∧ H' e = some (.tup ((partRs dn Rs).2.2.map V.int)), ?_, fun σ H' hm => ?_⟩
    · refine ⟨_, rfl, a, as, Rs, rfl, I1.rows, I1.prs, by omega, fun p H2 gs s2 np ep pg => ⟨p, rfl, ⟨_, SqL.of ep⟩, ?_⟩⟩
      have s02 := s01.trans s2
      have t2 : Tabs Ts H2 := (Fw.same tH s02).tabs
      have lgs : gs.length = Rs.length := by
        rw [pg.length, List.length_map, (ord_perm Rs).length_eq]
      refine for_list (xs := gs.map V.ref) (fun i σ H' => ∃ (y5 y6 : Option V) (e : Addr) (os ls : List Addr) (oG lG : List Gang) (ld : List Int), σ = [some (.ref du), some (.ref a), some (.ref o), some (.ref l), some (.ref e), y5, y6] ∧ Fw Ts H H' ∧ KTu H2 H' ∧ H' p = some (.lst (gs.map V.ref)) ∧ H' o = some (.lst (os.map V.ref)) ∧ H' l = some (.lst (ls.map V.ref)) ∧
          Paired (GangAt H') os oG ∧ Paired (GangAt H') ls lG ∧ H' e = some (.tup (ld.map V.int)) ∧ ld.length = dn.length ∧ os.length + ls.length = i ∧ partA dn (((ord Rs).map (·.1)).drop i) oG lG ld = partRs dn Rs)
        ⟨none, none, z0, [], [], [], [], zeros dn.length, rfl, Fw.same tH s02, KTu.refl _, ep, (s1.trans s2) _ _ eo0, (s1.trans s2) _ _ el0, .nil, .nil, s2 _ _ ez0, by unfold zeros; rw [List.length_replicate], rfl, rfl⟩ (fun i σ H' _ p => ?_) (fun i x σ H3 hx p => ?_) (fun σ H3 p => ?_)
      · obtain ⟨_, _, _, _, _, _, _, _, _, _, _, p4, _⟩ := p
        exact SqL.of p4
      · obtain ⟨y5, y6, e, os, ls, oG, lG, ld, rfl, fw, kt, e1, e2, e3, e4, e5, e6, e7, e8, e9⟩ := p
        obtain ⟨g, hg, rfl⟩ := map_get hx
        have hi : i < gs.length := (List.getElem?_eq_some_iff.mp hg).1
        obtain ⟨G, hG, gat⟩ := paired_get pg hg
        have g3 := gat.kt kt
        obtain ⟨R, hR, rfl⟩ : ∃ R ∈ Rs, R.1 = G := by
          obtain ⟨R, h1, h2⟩ := List.mem_map.mp (List.mem_of_getElem? hG)
          exact ⟨R, (ord_perm Rs).mem_iff.mp h1, h2⟩
        have ft := I.good.fit R hR
        have wl := I.wlen R hR
        rw [partA_step hG] at e9
        have t3 := fw.tabs
        refine ⟨_, rfl, _, rfl, g, R.1, rfl, g3, by have := ft.wlen; omega, ft.m0, by have := ft.m60; omega, t3 _ i3, fun pw H4 T4 k4 npw epw => ?_⟩
        have f4 := Fw.step t3 i3 k4 T4
        have e6' := f4.kt t3 _ _ e6
        refine ⟨e, pw, ld, R.1.whole, rfl, SqT.of e6', SqT.of epw, by omega, f4.tabs _ i1, fun pm H5 T5 k5 npm epm => ?_⟩
        have f5 := f4.trans (Fw.step f4.tabs i1 k5 T5)
        have lm : (addL ld R.1.whole).length = dn.length := by rw [addL_len (by rw [whole_len, wl, e7]), e7]
        refine ⟨_, rfl, _, rfl, pm, du, addL ld R.1.whole, dn, rfl, SqT.of epm, (fw.trans f5).seqT tH I.due, f5.tabs _ i2, fun H6 T6 k6 => ?_⟩
        have f36 := f5.trans (Fw.step f5.tabs i2 k6 T6)
        have f6 := fw.trans f36
        have t36 := f36.kt t3
        have eo6 := f36.lst t3 e2
        have el6 := f36.lst t3 e3
        have ep6 := f36.lst t3 e1
        have g6 := g3.kt t36
        have em6 := (Fw.step f5.tabs i2 k6 T6).kt f5.tabs _ _ epm
        have ld6 := t36 _ _ e6
        have po : o ≠ p := fun z => by
          have h1 := s1 _ _ eo0
          rw [z, np] at h1
          cases h1
        have pl : l ≠ p := fun z => by
          have h1 := s1 _ _ el0
          rw [z, np] at h1
          cases h1
        refine ⟨_, rfl, ite2 (fun hf => ?_) (fun hf => ?_)⟩
        · rw [if_pos hf] at e9
          refine ⟨_, rfl, .inl ⟨rfl, _, SqL.of eo6⟩, _, rfl, o, _, _, rfl, rfl, eo6, ?_, ?_⟩
          · rw [List.length_map]
            exact small63 (by omega)
          have kp : KTu H6 (upd H6 o (.lst (os.map V.ref ++ [V.ref g]))) := kt_put eo6 (fun xs z => by cases z)
          refine ⟨_, rfl, _, _, pm, os ++ [g], ls, oG ++ [R.1], lG, addL ld R.1.whole, rfl, f6.put tH no, (kt.trans t36).trans kp, by rw [upd_ne po.symm]; exact ep6, by rw [upd_same, List.map_append]; rfl, by rw [upd_ne ol.symm]; exact el6, Paired.snoc (e4.mono fun _ _ x => (x.kt t36).kt kp) (g6.kt kp), e5.mono fun _ _ x => (x.kt t36).kt kp, kp _ _ em6, lm, ?_, e9⟩
          rw [List.length_append]
          show os.length + 1 + ls.length = i + 1
          omega
        · rw [if_neg hf] at e9
          refine ⟨_, rfl, .inl ⟨rfl, _, SqL.of el6⟩, _, rfl, l, _, _, rfl, rfl, el6, ?_, ?_⟩
          · rw [List.length_map]
            exact small63 (by omega)
          have kp : KTu H6 (upd H6 l (.lst (ls.map V.ref ++ [V.ref g]))) := kt_put el6 (fun xs z => by cases z)
          refine ⟨_, _, e, os, ls ++ [g], oG, lG ++ [R.1], ld, rfl, f6.put tH fl, (kt.trans t36).trans kp, by rw [upd_ne pl.symm]; exact ep6, by rw [upd_ne ol]; exact eo6, by rw [upd_same, List.map_append]; rfl, e4.mono fun _ _ x => (x.kt t36).kt kp, Paired.snoc (e5.mono fun _ _ x => (x.kt t36).kt kp) (g6.kt kp), kp _ _ ld6, e7, ?_, e9⟩
          rw [List.length_append]
          show os.length + (ls.length + 1) = i + 1
          omega
      · obtain ⟨y5, y6, e, os, ls, oG, lG, ld, rfl, fw, kt, e1, e2, e3, e4, e5, e6, e7, e8, e9⟩ := p
        rw [List.length_map, List.drop_eq_nil_of_le (by rw [List.length_map, (ord_perm Rs).length_eq]; omega)] at e9
        have e9' : (oG, lG, ld) = partRs dn Rs := e9
        rw [← e9']
        exact ⟨_, _, e, os, ls, rfl, fw, e2, e3, e4, e5, e6⟩
    · obtain ⟨y5, y6, e, os, ls, rfl, fw, h1, h2, h3, h4, h5⟩ := hm
      refine ⟨_, rfl, _, rfl, _, rfl, by show 3 ≤ sizeLine; decide, fun t nt => ?_⟩
      have kp : KTu H' (upd H' t (.tup [.ref o, .ref l, .ref e])) := kt_new nt
      exact q t o l e _ os ls (fw.then (same_upd nt)) (fw.free tH nt) upd_same (same_upd nt _ _ h1) (same_upd nt _ _ h2) (h3.mono fun _ _ x => x.kt kp) (h4.mono fun _ _ x => x.kt kp) (kp _ _ h5)
theorem ok_parted {f fQ fA : Addr} {fd fdQ fdA : FuncData} {k : Nat} {Ts : List Addr} (F : Fun K "parted" "parted" s_scParted f fd)
    (GQ : FnOk P w K mg base CX0 k fQ fdQ ["due", "rows"] (spPartG K Ts)) (mQ : mg "parted_gangs" = some (.ref fQ)) (kQ : PySem.W.keepIn K (.ref fQ) = true) (bQ : L2.Binds K fdQ ["due", "rows"] [])
    (GA : FnOk P w K mg base CX0 k fA fdA ["gang"] spGName) (mA : mg "name_of" = some (.ref fA)) (kA : PySem.W.keepIn K (.ref fA) = true) (bA : L2.Binds K fdA ["gang"] []) :
    FnOk P w K mg base CX0 (k + 1) f fd ["due", "rows"] (spParted K Ts) := by
  refine F.ok scParted (fun vs H Q E h => ?_) (fun cdv A outer s H vs Q E hr h => ?_)
  · obtain ⟨du, a, dn, as, Rs, rfl, _⟩ := h
    rfl
  · obtain ⟨du, a, dn, as, Rs, rfl, I, tH, q⟩ := h
    have lR := I.good.len
    have ln := partRs_len dn Rs
    refine ⟨_, (pss_cons (ps_asg (pe_call GQ hr (by rfl) mQ kQ bQ .nil pass0 (pa_cons (pv 0) (pa_cons (pv 1) pa_nil))) (pg_tup rfl (pgs_cons (pg_name (i := 2) scParted.nd rfl (.inl rfl)) (pgs_cons (pg_name (i := 3) scParted.nd rfl (.inl rfl)) (pgs_cons (pg_name (i := 4) scParted.nd rfl (.inl rfl)) pgs_nil)))))
      (pss_one (ps_ret (pe_tup (pa_cons (pe_lc (own := [("gang", 5)]) (g := (gName 5)) (tt := tYes) rfl scParted.nd (pi_list (pv 2)) (blkOk_by (own := [("gang", 5)]) (N := n_scParted) (sc := defScope s_scParted) (by decide +kernel)) (fun _ _ _ _ _ => (pg_name (i := 5) scParted.nd rfl (.inl rfl))) (fun _ _ _ _ _ => pts_nil) (fun _ _ _ _ _ => (pe_call GA hr (by rfl) mA kA bA .nil pass0 (pa_cons (pv 5) pa_nil)))) (pa_cons (pe_lc (own := [("gang", 5)]) (g := (gName 5)) (tt := tYes) rfl scParted.nd (pi_list (pv 3)) (blkOk_by (own := [("gang", 5)]) (N := n_scParted) (sc := defScope s_scParted) (by decide +kernel)) (fun _ _ _ _ _ => (pg_name (i := 5) scParted.nd rfl (.inl rfl))) (fun _ _ _ _ _ => pts_nil) (fun _ _ _ _ _ => (pe_call GA hr (by rfl) mA kA bA .nil pass0 (pa_cons (pv 5) pa_nil)))) pa_nil)))))), ?_⟩
    refine ⟨_, rfl, _, rfl, du, a, dn, as, Rs, rfl, I, tH, fun t o l e H1 os ls fw nt et eo el po pl ee => ?_⟩
    refine ⟨t, _, rfl, SqT.of et, rfl, _, _, rfl, _, _, rfl, _, _, rfl, rfl, ?_⟩
    have go : os.length ≤ 100 := by
      rw [po.length]
      omega
    have gl : ls.length ≤ 100 := by
      rw [pl.length]
      omega
    refine ⟨_, rfl, o, rfl, ⟨_, SqL.of eo⟩, fun D nD => ?_⟩
    refine lc_list (K := K) (a := o) (xs := os.map V.ref) (fun j H' => Same H1 H' ∧ H' D = some (.lst ((((partRs dn Rs).1.take j).map (·.name)).map V.str)))
      ⟨same_upd nD, upd_same⟩ (fun j H' _ p => SqL.of (p.1 _ _ eo)) (fun j x H2 hx p => ?_) (fun H2 p => ?_)
    · obtain ⟨p1, p2⟩ := p
      obtain ⟨g, hg, rfl⟩ := map_get hx
      obtain ⟨G, hG, gat⟩ := paired_get po hg
      have hj : j < os.length := (List.getElem?_eq_some_iff.mp hg).1
      refine ⟨rfl, ?_⟩
      refine ⟨_, rfl, g, G, rfl, gat.same p1, _, p2, ?_, same_put p1 nD, ?_⟩
      · rw [List.length_map, List.length_map, List.length_take]
        exact small63 (by omega)
      · rw [upd_same, List.take_add_one, hG, List.map_append, List.map_append]
        rfl
    obtain ⟨p1, p2⟩ := p
    rw [List.length_map, po.length, List.take_of_length_le (Nat.le_refl _)] at p2
    have el2 := p1 _ _ el
    refine ⟨_, rfl, l, rfl, ⟨_, SqL.of el2⟩, fun D2 nD2 => ?_⟩
    refine lc_list (K := K) (a := l) (xs := ls.map V.ref) (fun j H' => Same H2 H' ∧ H' D2 = some (.lst ((((partRs dn Rs).2.1.take j).map (·.name)).map V.str)))
      ⟨same_upd nD2, upd_same⟩ (fun j H' _ p => SqL.of (p.1 _ _ el2)) (fun j x H3 hx p => ?_) (fun H3 p => ?_)
    · obtain ⟨p3, p4⟩ := p
      obtain ⟨g, hg, rfl⟩ := map_get hx
      obtain ⟨G, hG, gat⟩ := paired_get pl hg
      have hj : j < ls.length := (List.getElem?_eq_some_iff.mp hg).1
      refine ⟨rfl, ?_⟩
      refine ⟨_, rfl, g, G, rfl, gat.same (p1.trans p3), _, p4, ?_, same_put p3 nD2, ?_⟩
      · rw [List.length_map, List.length_map, List.length_take]
        exact small63 (by omega)
      · rw [upd_same, List.take_add_one, hG, List.map_append, List.map_append]
        rfl
    obtain ⟨p3, p4⟩ := p
    rw [List.length_map, pl.length, List.take_of_length_le (Nat.le_refl _)] at p4
    refine ⟨by show 2 ≤ sizeLine; decide, fun t2 nt2 => ?_⟩
    have f3 := (fw.then p1).then p3
    refine q t2 D D2 _ (f3.then (same_upd nt2)) (f3.free tH nt2) upd_same (fw.free tH nD) ((fw.then p1).free tH nD2) (fun z => ?_) (same_upd nt2 _ _ (p3 _ _ p2)) (same_upd nt2 _ _ p4)
    rw [← z, p2] at nD2
    cases nD2
end
end My

namespace My
open PySem PySem.W PySem.Spec PyProof.Rows L2 GX GxR
theorem partA_mem {dn : List Int} : ∀ (Gs o l : List Gang) (ld : List Int) (G : Gang), (G ∈ (partA dn Gs o l ld).1 ∨ G ∈ (partA dn Gs o l ld).2.1) → G ∈ Gs ∨ G ∈ o ∨ G ∈ l
  | [], o, l, ld, G, h => by
    rcases h with h | h
    · exact .inr (.inl h)
    · exact .inr (.inr h)
  | F :: Gs, o, l, ld, G, h => by
    unfold partA at h
    split at h
    · rcases partA_mem Gs _ _ _ G h with h | h | h
      · exact .inl (List.mem_cons_of_mem _ h)
      · rcases List.mem_append.mp h with h | h
        · exact .inr (.inl h)
        · exact .inl (by rw [List.mem_singleton.mp h]; exact List.mem_cons_self)
      · exact .inr (.inr h)
    · rcases partA_mem Gs _ _ _ G h with h | h | h
      · exact .inl (List.mem_cons_of_mem _ h)
      · exact .inr (.inl h)
      · rcases List.mem_append.mp h with h | h
        · exact .inr (.inr h)
        · exact .inl (by rw [List.mem_singleton.mp h]; exact List.mem_cons_self)
theorem partRs_mem {dn : List Int} {Rs : List (Gang × Int)} {G : Gang} (h : G ∈ (partRs dn Rs).1 ∨ G ∈ (partRs dn Rs).2.1) : ∃ R ∈ Rs, R.1 = G := by
  rcases partA_mem _ _ _ _ G h with h | h | h
  · obtain ⟨R, h1, h2⟩ := List.mem_map.mp h
    exact ⟨R, (ord_perm Rs).mem_iff.mp h1, h2⟩
  · exact (nomatch h)
  · exact (nomatch h)
theorem dp_strs {K : PySem.W.Frag} {H : Hp} : ∀ zs : List Str, DpAll K H (zs.map V.str) (zs.map PyData.str)
  | [] => .nil
  | z :: zs => .cons (.str z) (dp_strs zs)
theorem lay_strs : ∀ {zs : List Str}, (∀ z ∈ zs, PySem.PyData.strOk z = true) → PyData.canLayAll0 (zs.map PyData.str) = true
  | [], _ => rfl
  | z :: zs, h => by
    show (PyData.canLay0 (.str z) && PyData.canLayAll0 (zs.map PyData.str)) = true
    rw [lay_strs fun y hy => h y (List.mem_cons_of_mem _ hy), Bool.and_true]
    exact h z List.mem_cons_self
theorem dpt_strs : ∀ zs : List Str, PyData.depthAll (zs.map PyData.str) = 0
  | [] => rfl
  | z :: zs => by
    show PyData.depthAll (PyData.str z :: zs.map PyData.str) = 0
    simp only [PyData.depthAll, PyData.depth, dpt_strs zs]
    rfl
theorem sh_strs {zs : List Str} (h : ∀ z ∈ zs, PySem.PyData.strOk z = true) : SeqAt.shaped (.list (zs.map PyData.str)) = true := by
  unfold SeqAt.shaped
  have h1 : PyData.canLay0 (.list (zs.map PyData.str)) = true := lay_strs h
  have h2 : (PyData.list (zs.map PyData.str)).depth ≤ 64 := by
    simp only [PyData.depth, dpt_strs]
    decide
  rw [h1, decide_eq_true h2]
  rfl
theorem names_ok {dn : List Int} {Rs : List (Gang × Int)} (g : Good2 Rs) : (∀ z ∈ (partRs dn Rs).1.map (·.name), PySem.PyData.strOk z = true) ∧ (∀ z ∈ (partRs dn Rs).2.1.map (·.name), PySem.PyData.strOk z = true) := by
  refine ⟨fun z hz => ?_, fun z hz => ?_⟩
  · obtain ⟨G, hG, rfl⟩ := List.mem_map.mp hz
    obtain ⟨R, hR, rfl⟩ := partRs_mem (.inl hG)
    exact (g.fit R hR).name
  · obtain ⟨G, hG, rfl⟩ := List.mem_map.mp hz
    obtain ⟨R, hR, rfl⟩ := partRs_mem (.inr hG)
    exact (g.fit R hR).name
theorem sm_strs {H : Hp} {n : Nat} {p q : Addr} {zs : List Str} (h1 : H p = some (.lst (zs.map V.str))) (h2 : H q = some (.lst (zs.map V.str))) (hs : zs.length < 100000) : Sm H (n + 1) (.ref p) (.ref q) :=
  sm_lst h1 h2 (by rw [List.length_map]; exact hs) (prs_strs (fun z => sm_str z) zs)
theorem valV_get {κ : Type} [DecidableEq κ] : ∀ {ps : List (κ × V)} {i : Nat} {k : κ} {v : V}, (ps.map (·.1)).Nodup → ps[i]? = some (k, v) → valV ps k = some v
  | [], _, _, _, _, h => by simp at h
  | p :: ps, 0, k, v, _, h => by
    cases h
    exact valV_pos rfl
  | p :: ps, i + 1, k, v, nd, h => by
    have h' : ps[i]? = some (k, v) := by simpa using h
    rw [List.map_cons, List.nodup_cons] at nd
    rw [valV_neg fun z => nd.1 (List.mem_map.mpr ⟨(k, v), List.mem_of_getElem? h', z.symm⟩)]
    exact valV_get nd.2 h'
theorem valV_due {H : Hp} {ps : List (Key × V)} {kvs : List (Str × List Int)} (h : Paired (DueAt H) ps kvs) (nd : (kvs.map (·.1)).Nodup) {z : Str} (hz : z ∈ kvs.map (·.1)) : ∃ (a : Addr) (ns : List Int), valV ps (Sum.inr z) = some (.ref a) ∧ (z, ns) ∈ kvs ∧ H a = some (.tup (ns.map V.int)) := by
  obtain ⟨kv, hkv, rfl⟩ := List.mem_map.mp hz
  obtain ⟨i, hi⟩ := List.mem_iff_getElem?.mp hkv
  obtain ⟨p, hp, e, a, h1, h2⟩ := paired_get2 h hi
  have np : (ps.map (·.1)).Nodup := by
    rw [due_keys h]
    exact keys_nd nd
  have hp' : ps[i]? = some (Sum.inr kv.1, .ref a) := by
    rw [hp, ← e, ← h1]
  exact ⟨a, kv.2, valV_get np hp', hkv, h2⟩
theorem dgetR {H : Hp} {d : Addr} {ps : List (Key × V)} {z : Str} {v : V} (h : Rd H d (.dK ps)) (e : valV ps (Sum.inr z) = some v) : DGet H d (.str z) (some v) := .inl ⟨ps, Sum.inr z, h, rfl, e.symm⟩
end My

namespace My
open PySem PySem.W PySem.Spec PyProof.Rows L2 GX GxR
/-! the parting, further -/
/-- the own ones and the lent of a list, from a load on -/
def ownOf (dn : List Int) : List Gang → List Int → List Gang
  | [], _ => []
  | G :: Gs, ld => if fitB (addL ld G.whole) dn = true then G :: ownOf dn Gs (addL ld G.whole) else ownOf dn Gs ld
def lentOf (dn : List Int) : List Gang → List Int → List Gang
  | [], _ => []
  | G :: Gs, ld => if fitB (addL ld G.whole) dn = true then lentOf dn Gs (addL ld G.whole) else G :: lentOf dn Gs ld
def loadOf (dn : List Int) : List Gang → List Int → List Int
  | [], ld => ld
  | G :: Gs, ld => if fitB (addL ld G.whole) dn = true then loadOf dn Gs (addL ld G.whole) else loadOf dn Gs ld
theorem partA_eq (dn : List Int) : ∀ (Gs o l : List Gang) (ld : List Int), partA dn Gs o l ld = (o ++ ownOf dn Gs ld, l ++ lentOf dn Gs ld, loadOf dn Gs ld)
  | [], o, l, ld => by
    show (o, l, ld) = (o ++ [], l ++ [], ld)
    rw [List.append_nil, List.append_nil]
  | G :: Gs, o, l, ld => by
    unfold partA ownOf lentOf loadOf
    by_cases h : fitB (addL ld G.whole) dn = true
    · rw [if_pos h, if_pos h, if_pos h, if_pos h, partA_eq dn Gs, List.append_assoc]
      rfl
    · rw [if_neg h, if_neg h, if_neg h, if_neg h, partA_eq dn Gs, List.append_assoc]
      rfl
theorem partRs_eq (dn : List Int) (Rs : List (Gang × Int)) : partRs dn Rs = (ownOf dn ((ord Rs).map (·.1)) (zeros dn.length), lentOf dn ((ord Rs).map (·.1)) (zeros dn.length), loadOf dn ((ord Rs).map (·.1)) (zeros dn.length)) := by
  unfold partRs
  rw [partA_eq, List.nil_append, List.nil_append]
theorem own_sub (dn : List Int) : ∀ (Gs : List Gang) (ld : List Int), (ownOf dn Gs ld).Sublist Gs
  | [], _ => List.Sublist.refl _
  | G :: Gs, ld => by
    unfold ownOf
    split
    · exact (own_sub dn Gs _).cons₂ G
    · exact (own_sub dn Gs _).cons G
theorem lent_sub (dn : List Int) : ∀ (Gs : List Gang) (ld : List Int), (lentOf dn Gs ld).Sublist Gs
  | [], _ => List.Sublist.refl _
  | G :: Gs, ld => by
    unfold lentOf
    split
    · exact (lent_sub dn Gs _).cons G
    · exact (lent_sub dn Gs _).cons₂ G
def nm (Gs : List Gang) : List Str := Gs.map (·.name)
theorem nm_sub {Gs Hs : List Gang} (h : Gs.Sublist Hs) : (nm Gs).Sublist (nm Hs) := h.map _
/-- the names that are among the own ones, those that aren't -/
theorem filt_own {dn : List Int} : ∀ {Gs : List Gang} {ld : List Int}, (nm Gs).Nodup → (nm Gs).filter (fun z => decide (z ∈ nm (ownOf dn Gs ld))) = nm (ownOf dn Gs ld) ∧ (nm Gs).filter (fun z => !decide (z ∈ nm (ownOf dn Gs ld))) = nm (lentOf dn Gs ld)
  | [], _, _ => ⟨rfl, rfl⟩
  | G :: Gs, ld, nd => by
    have nd' : G.name ∉ nm Gs ∧ (nm Gs).Nodup := List.nodup_cons.mp nd
    unfold ownOf lentOf
    by_cases h : fitB (addL ld G.whole) dn = true
    · rw [if_pos h, if_pos h]
      obtain ⟨h1, h2⟩ := filt_own (dn := dn) (ld := addL ld G.whole) nd'.2
      have same : ∀ z ∈ nm Gs, (z ∈ nm (G :: ownOf dn Gs (addL ld G.whole))) ↔ z ∈ nm (ownOf dn Gs (addL ld G.whole)) := fun z hz => by
        refine ⟨fun q => ?_, fun q => List.mem_cons_of_mem _ q⟩
        rcases List.mem_cons.mp q with e | q
        · exact absurd (show G.name ∈ nm Gs from (show z = G.name from e) ▸ hz) nd'.1
        · exact q
      have e0 : decide (G.name ∈ nm (G :: ownOf dn Gs (addL ld G.whole))) = true := decide_eq_true List.mem_cons_self
      refine ⟨?_, ?_⟩
      · show (G.name :: nm Gs).filter _ = _
        rw [List.filter_cons_of_pos (p := fun z => decide (z ∈ nm (G :: ownOf dn Gs (addL ld G.whole)))) e0, List.filter_congr (q := fun z => decide (z ∈ nm (ownOf dn Gs (addL ld G.whole)))) (fun z hz => by simp only [same z hz]), h1]
        rfl
      · show (G.name :: nm Gs).filter _ = _
        rw [List.filter_cons_of_neg (p := fun z => !decide (z ∈ nm (G :: ownOf dn Gs (addL ld G.whole)))) (by rw [e0]; decide), List.filter_congr (q := fun z => !decide (z ∈ nm (ownOf dn Gs (addL ld G.whole)))) (fun z hz => by simp only [same z hz]), h2]
    · rw [if_neg h, if_neg h]
      obtain ⟨h1, h2⟩ := filt_own (dn := dn) (ld := ld) nd'.2
      have no : G.name ∉ nm (ownOf dn Gs ld) := fun q => nd'.1 ((nm_sub (own_sub dn Gs ld)).subset q)
      refine ⟨?_, ?_⟩
      · show (G.name :: nm Gs).filter _ = _
        rw [List.filter_cons_of_neg (p := fun z => decide (z ∈ nm (ownOf dn Gs ld))) (by rw [decide_eq_false no]; decide), h1]
      · show (G.name :: nm Gs).filter _ = _
        rw [List.filter_cons_of_pos (p := fun z => !decide (z ∈ nm (ownOf dn Gs ld))) (by rw [decide_eq_false no]; rfl), h2]
        rfl
/-- what some bear, ware by ware -/
def borneL (n : Nat) (Gs : List Gang) : List Int := (List.range n).map fun k => (Gs.map fun G => G.many * G.want.getD k 0).sum
theorem borne_nil (n : Nat) : borneL n [] = zeros n := by
  unfold borneL zeros
  apply List.ext_getElem?
  intro i
  rw [List.getElem?_map]
  by_cases h : i < n
  · rw [List.getElem?_range h, List.getElem?_replicate, if_pos h]
    rfl
  · rw [List.getElem?_eq_none (by rw [List.length_range]; omega), List.getElem?_replicate, if_neg h]
    rfl
theorem borne_snoc {n : Nat} {Gs : List Gang} {G : Gang} (h : G.want.length = n) : borneL n (Gs ++ [G]) = addL (borneL n Gs) G.whole := by
  unfold addL
  apply List.ext_getElem?
  intro i
  rw [List.getElem?_zipWith]
  unfold borneL Gang.whole
  rw [List.getElem?_map, List.getElem?_map, List.getElem?_map]
  by_cases hi : i < n
  · rw [List.getElem?_range hi, List.getElem?_eq_getElem (by omega)]
    have e : G.want.getD i 0 = G.want[i]'(by omega) := by
      rw [List.getD_eq_getElem?_getD, List.getElem?_eq_getElem (by omega)]
      rfl
    show some ((Gs ++ [G]).map fun G => G.many * G.want.getD i 0).sum = some ((Gs.map fun G => G.many * G.want.getD i 0).sum + G.want[i]'(by omega) * G.many)
    rw [List.map_append, List.sum_append]
    show some (_ + ([G.many * G.want.getD i 0] : List Int).sum) = _
    rw [e, List.sum_singleton, Int.mul_comm]
  · rw [List.getElem?_eq_none (by rw [List.length_range]; omega)]
    rfl
theorem borne_len (n : Nat) (Gs : List Gang) : (borneL n Gs).length = n := by
  unfold borneL
  rw [List.length_map, List.length_range]
/-- own ones alone are own -/
theorem own_own (dn : List Int) : ∀ (Gs : List Gang) (ld : List Int), ownOf dn (ownOf dn Gs ld) ld = ownOf dn Gs ld ∧ lentOf dn (ownOf dn Gs ld) ld = []
  | [], _ => ⟨rfl, rfl⟩
  | G :: Gs, ld => by
    by_cases h : fitB (addL ld G.whole) dn = true
    · have e : ownOf dn (G :: Gs) ld = G :: ownOf dn Gs (addL ld G.whole) := by
        show (if _ then _ else _) = _
        rw [if_pos h]
      obtain ⟨h1, h2⟩ := own_own dn Gs (addL ld G.whole)
      rw [e]
      refine ⟨?_, ?_⟩
      · show (if _ then _ else _) = _
        rw [if_pos h, h1]
      · show (if _ then _ else _) = _
        rw [if_pos h, h2]
    · have e : ownOf dn (G :: Gs) ld = ownOf dn Gs ld := by
        show (if _ then _ else _) = _
        rw [if_neg h]
      rw [e]
      exact own_own dn Gs ld
theorem own_app (dn : List Int) : ∀ (Gs Hs : List Gang) (ld : List Int), ownOf dn (Gs ++ Hs) ld = ownOf dn Gs ld ++ ownOf dn Hs (loadOf dn Gs ld) ∧ lentOf dn (Gs ++ Hs) ld = lentOf dn Gs ld ++ lentOf dn Hs (loadOf dn Gs ld) ∧ loadOf dn (Gs ++ Hs) ld = loadOf dn Hs (loadOf dn Gs ld)
  | [], Hs, ld => ⟨rfl, rfl, rfl⟩
  | G :: Gs, Hs, ld => by
    rw [List.cons_append]
    by_cases h : fitB (addL ld G.whole) dn = true
    · obtain ⟨h1, h2, h3⟩ := own_app dn Gs Hs (addL ld G.whole)
      simp only [ownOf, lentOf, loadOf, if_pos h, h1, h2, h3, List.cons_append, true_and]
    · obtain ⟨h1, h2, h3⟩ := own_app dn Gs Hs ld
      simp only [ownOf, lentOf, loadOf, if_neg h, h1, h2, h3, List.cons_append, true_and]
theorem load_fits (dn : List Int) : ∀ (Gs : List Gang) (ld : List Int), fitB ld dn = true → fitB (loadOf dn Gs ld) dn = true
  | [], _, h => h
  | G :: Gs, ld, h => by
    unfold loadOf
    split
    · exact load_fits dn Gs _ (by assumption)
    · exact load_fits dn Gs _ h
theorem fits_zero {dn : List Int} (h : Amt dn) : fitB (zeros dn.length) dn = true := by
  induction dn with
  | nil => rfl
  | cons d dn ih =>
    have h1 := (h d List.mem_cons_self).1
    have h2 := ih fun x hx => h x (List.mem_cons_of_mem _ hx)
    unfold fitB zeros at *
    rw [List.length_cons, List.replicate_succ, List.zipWith_cons_cons, List.all_cons, h2, Bool.and_true]
    exact decide_eq_true h1
/-- the order of some of the rows -/
theorem ord_filter {Rs : List (Gang × Int)} (h : (Rs.map (·.2)).Nodup) (p : Gang × Int → Bool) : ord (Rs.filter p) = (ord Rs).filter p :=
  (ord_of ((List.Sublist.map (·.2) (List.filter_sublist (p := p) (l := Rs))).nodup h) ((ord_perm Rs).filter p) ((ord_sorted Rs).sublist List.filter_sublist)).symm
theorem ord_take {Rs : List (Gang × Int)} (n : Nat) : ord ((ord Rs).take n) = (ord Rs).take n := List.mergeSort_of_pairwise ((ord_sorted Rs).sublist (List.take_sublist n _))
end My

namespace My
open PySem PySem.W PySem.Spec PyProof.Rows L2
section
variable {X : Cx}
/-- picked values are values that were there -/
theorem pick_vals {xs : List V} {its : List Value} (rv : Vals xs its) : ∀ js : List Nat, ∃ ys : List V, Vals ys (js.filterMap (its.toArray[·]?)) ∧ ∀ y ∈ ys, y ∈ xs
  | [] => ⟨[], .nil, fun _ h => nomatch h⟩
  | j :: js => by
    obtain ⟨ys, h1, h2⟩ := pick_vals rv js
    cases e : xs[j]? with
    | none =>
      have e2 : its.toArray[j]? = none := by
        have := rv.none_of e
        simpa using this
      exact ⟨ys, by rw [List.filterMap_cons_none e2]; exact h1, h2⟩
    | some x =>
      obtain ⟨u, hu, ru⟩ := rv.get e
      have e2 : its.toArray[j]? = some u := by simpa using hu
      refine ⟨x :: ys, by rw [List.filterMap_cons_some e2]; exact .cons ru h1, fun y hy => ?_⟩
      rcases List.mem_cons.mp hy with z | z
      · rw [z]
        exact List.mem_of_getElem? e
      · exact h2 y z
/-- xs[::n] -/
def stepR (K : PySem.W.Frag) (a : Addr) (xs : List V) (Q : VK) (i : Int) (H : Hp) : Prop := i ≠ 0 ∧ SqL K H a xs ∧ ∀ p ys, H p = none → ys.length ≤ xs.length → (∀ y ∈ ys, y ∈ xs) → Q (.ref p) (upd H p (.lst ys))
def stepO (K : PySem.W.Frag) (a : Addr) (xs : List V) (Q : VK) : Option Int → Hp → Prop
  | some i, H => stepR K a xs Q i H
  | none, _ => False
def tStepL (K : PySem.W.Frag) (te ts : TE) : TE := fun σ H Q => te σ H fun x H1 => ∃ a xs, x = .ref a ∧ ts σ H1 fun y H2 => ∃ i : Int, y = .int i ∧ stepR K a xs Q i H2
theorem pe_stepL {e est : Expr} {te ts : TE} {p3 pos : Pos} (he : PE X e te) (hs : PE X est ts) : PE X (.Subscript e (.Slice none none (some est) p3) pos) (tStepL X.K te ts) := by
  refine ⟨fun pins s σ H Q I h => ?_⟩
  refine Subscript_ (thn (he.run pins s σ H _ I h) fun v s1 ⟨x, H1, I1, r1, a, xs, ex, q1⟩ => ?_)
  subst ex
  cases r1
  refine wpAny_Slice (thn (po_none.run pins s1 σ H1 (fun o Hn => o = none ∧ Hn = H1) I1 ⟨rfl, rfl⟩) fun vl s2 ⟨lo, H2, I2, pl, elo, e2⟩ => ?_)
  subst elo e2
  refine thn (po_none.run pins s2 σ H2 (fun o Hn => o = none ∧ Hn = H2) I2 ⟨rfl, rfl⟩) fun vu s3 ⟨hi, H3, I3, pu, ehi, e3⟩ => ?_
  subst ehi e3
  refine thn ((po_some hs).run pins s3 σ H3 (stepO X.K a xs Q) I3 q1) fun vst s4 ⟨st, H4, I4, pst, q4⟩ => ?_
  cases st with
  | none => exact q4.elim
  | some i =>
    obtain ⟨i0, hx, q⟩ := q4
    have kp : ∀ b ob, s4.heap.get? b = some ob → (s4.heap.push { cls := .type "slice", data := .fields #[vl, vu, vst] }).get? b = some ob := fun b ob z => Heap.get?_push_of_some _ z
    have I5 := I4.kept (t' := s4.toks) kp
    obtain ⟨its, rv, pl5, hz⟩ := I5.list hx
    have hlen := rv.length
    have hsz : its.toArray.size ≤ sizeLine := by
      rw [List.size_toArray]
      omega
    refine tail_any (ops := [.ref a, .ref s4.heap.objs.size]) pl5.isList.typeIs slot_list_getitem.lookup ?_ (by with_unfolding_all rfl)
    refine wpAny_getItem_list_slice pl5.isList (Heap.IsSliceOf.new _ vl vu vst) pl pu pst (fun z => i0 (Option.some.inj z)) ?_ hsz
    have ls := slicePick_size_le its.toArray none none (some i)
    obtain ⟨ys, y1, y2⟩ : ∃ ys : List V, Vals ys (slicePick its.toArray none none (some i)).toList ∧ ∀ y ∈ ys, y ∈ xs := by
      unfold slicePick
      exact pick_vals rv _
    have ly : ys.length ≤ xs.length := by
      have l1 := y1.length
      have l2 : (slicePick its.toArray none none (some i)).toList.length = (slicePick its.toArray none none (some i)).size := Array.length_toList
      have sz : its.toArray.size = its.length := List.size_toArray
      omega
    refine ⟨.ref _, _, I5.laid (t' := s4.toks) (o := .lst ys) (fun b ob z => Heap.get?_push_of_some _ z) (Nat.le_refl _) ⟨by omega, _, 0, y1, ?_⟩, rfl, q _ ys (I5.hok.fresh (Nat.le_refl _)) ly y2⟩
    exact Heap.get?_push_size _ rfl
/-- max(xs, default=d), xs a list of whole numbers -/
def rMaxD (K : PySem.W.Frag) : List V → List V → Hp → VK → Prop := fun vs zs H Q => ∃ (a : Addr) (ns : List Int) (d : V), vs = [.ref a] ∧ zs = [d] ∧ SqL K H a (ns.map V.int) ∧ (ns = [] → Q d H) ∧ ∀ m, m ∈ ns → (∀ y ∈ ns, y ≤ m) → Q (.int m) H
theorem read_ints {h : Heap} : ∀ (ns : List Int) (us : List Value), Vals (ns.map V.int) us → ReadsAll h us (ns.map PyData.int) []
  | [], _, .nil => .nil
  | n :: ns, _, .cons r t => by
    obtain ⟨k, rfl⟩ := r
    exact .cons (as := []) (bs := []) (.int n k) (read_ints ns _ t)
theorem cr_maxD (hc : X.calm = true) (hu : X.A.units + 1 < cLine) : CallRK X (.builtin "max") ["default"] (rMaxD X.K) := by
  intro pins s σ H xs zs us ws Q I r1 r2 h
  obtain ⟨a, ns, d, rfl, rfl, hq, q0, q1⟩ := h
  obtain ⟨u, rfl, ru⟩ := vals1 r1
  obtain ⟨u2, rfl, ru2⟩ := vals1 r2
  obtain rfl : u = Value.ref a := ru
  obtain ⟨its, rv, pl, _⟩ := I.list hq
  refine PySem.W.max_list_default (xs := ns.map PyData.int) (as := []) (I.ok.hd hc) pl.isList (read_ints ns its rv) ⟨fun x hx y hy => ?_, fun x hx => ?_⟩ (by rw [PySem.W.ke_depthAll]; exact hu) (fun e h' tk kp => ?_) (fun y ys i v h' tk bs e hv hr kp => ?_)
  · obtain ⟨i, _, rfl⟩ := List.mem_map.mp hx
    obtain ⟨j, _, rfl⟩ := List.mem_map.mp hy
    rfl
  · obtain ⟨i, _, rfl⟩ := List.mem_map.mp hx
    exact fun z => nomatch z
  · have e2 : ns = [] := by
      cases ns with
      | nil => rfl
      | cons _ _ => cases e
    exact ⟨d, H, I.kept kp, ru2, q0 e2⟩
  · cases ns with
    | nil => cases e
    | cons n r =>
      rw [List.map_cons] at e
      injection e with z1 z2
      subst z1 z2
      rw [PySem.W.maxD_ints] at hr
      obtain ⟨t, rfl⟩ : ∃ t, v = Value.int (r.foldl max n) t := by
        cases hr
        exact ⟨_, rfl⟩
      obtain ⟨g1, g2, g3⟩ := GX.fold_max n r
      refine ⟨.int (r.foldl max n), H, I.kept kp, ⟨t, rfl⟩, q1 _ ?_ fun y hy => ?_⟩
      · rcases g1 with z | z
        · rw [z]
          exact List.mem_cons_self
        · exact List.mem_cons_of_mem _ z
      · rcases List.mem_cons.mp hy with z | z
        · rw [z]
          exact g2
        · exact g3 y z
end
end My

namespace My
open PySem PySem.W PySem.Spec PyProof.Rows L2 GX GxR
/-! one more gang, of the greatest number -/
def aboveOf (r : Int) (Rs : List (Gang × Int)) : List (Gang × Int) := Rs.filter fun R => decide (r ≤ R.1.rank)
def belowOf (r : Int) (Rs : List (Gang × Int)) : List (Gang × Int) := Rs.filter fun R => !decide (r ≤ R.1.rank)
def owedB (dn : List Int) (Rs : List (Gang × Int)) (G : Gang) : Bool := fitB (addL (partRs dn Rs).2.2 G.whole) dn
def ownB (dn : List Int) (Rs : List (Gang × Int)) (G : Gang) : Bool := owedB dn (aboveOf G.rank Rs) G
theorem ord_one {Rs : List (Gang × Int)} {G : Gang} {n : Int} (nd : (Rs.map (·.2)).Nodup) (hn : ∀ R ∈ Rs, R.2 < n) : ord (Rs ++ [(G, n)]) = ord (aboveOf G.rank Rs) ++ (G, n) :: ord (belowOf G.rank Rs) := by
  have nd2 : ((Rs ++ [(G, n)]).map (·.2)).Nodup := by
    rw [List.map_append, List.nodup_append]
    refine ⟨nd, List.pairwise_singleton _ _, fun a ha b hb z => ?_⟩
    obtain ⟨R, hR, rfl⟩ := List.mem_map.mp ha
    have := hn R hR
    have hb' : b = n := List.mem_singleton.mp hb
    omega
  refine (ord_of nd2 ?_ ?_).symm
  · have h1 : (aboveOf G.rank Rs ++ belowOf G.rank Rs).Perm Rs := List.filter_append_perm _ Rs
    have h2 := (ord_perm (aboveOf G.rank Rs)).append (ord_perm (belowOf G.rank Rs))
    exact (List.perm_middle.trans ((List.Perm.cons _ (h2.trans h1)))).trans (List.perm_append_comm (l₁ := [(G, n)]))
  · rw [List.pairwise_append]
    refine ⟨ord_sorted _, List.pairwise_cons.mpr ⟨fun b hb => ?_, ord_sorted _⟩, fun a ha b hb => ?_⟩
    · have hb' := (List.mem_filter.mp ((ord_perm _).mem_iff.mp hb)).2
      unfold rowLe
      simp only [Bool.not_eq_true', decide_eq_false_iff_not] at hb'
      rw [decide_eq_true_eq]
      show -G.rank < -b.1.rank ∨ _
      omega
    · obtain ⟨ha1, ha2⟩ := List.mem_filter.mp ((ord_perm _).mem_iff.mp ha)
      have ha3 : G.rank ≤ a.1.rank := of_decide_eq_true ha2
      have ha4 := hn a ha1
      unfold rowLe
      rw [decide_eq_true_eq]
      rcases List.mem_cons.mp hb with z | z
      · rw [z]
        show -a.1.rank < -G.rank ∨ (-a.1.rank = -G.rank ∧ a.2 ≤ n)
        omega
      · have hb' := (List.mem_filter.mp ((ord_perm _).mem_iff.mp z)).2
        simp only [Bool.not_eq_true', decide_eq_false_iff_not] at hb'
        omega
theorem own_mem {dn : List Int} {A B : List Gang} {G : Gang} {ld : List Int} (h : G.name ∉ nm A) (h' : G.name ∉ nm B) : G.name ∈ nm (ownOf dn (A ++ G :: B) ld) ↔ fitB (addL (loadOf dn A ld) G.whole) dn = true := by
  rw [(own_app dn A (G :: B) ld).1]
  unfold nm
  rw [List.map_append, List.mem_append]
  have h1 : G.name ∉ nm (ownOf dn A ld) := fun z => h ((nm_sub (own_sub dn A ld)).subset z)
  have h2 : ∀ ld, G.name ∉ nm (ownOf dn B ld) := fun ld z => h' ((nm_sub (own_sub dn B ld)).subset z)
  show G.name ∈ nm _ ∨ G.name ∈ nm _ ↔ _
  by_cases f : fitB (addL (loadOf dn A ld) G.whole) dn = true
  · refine ⟨fun _ => f, fun _ => .inr ?_⟩
    have e : ownOf dn (G :: B) (loadOf dn A ld) = G :: ownOf dn B (addL (loadOf dn A ld) G.whole) := by
      show (if _ then _ else _) = _
      rw [if_pos f]
    rw [e]
    exact List.mem_cons_self
  · refine ⟨fun z => ?_, fun z => absurd z f⟩
    have e : ownOf dn (G :: B) (loadOf dn A ld) = ownOf dn B (loadOf dn A ld) := by
      show (if _ then _ else _) = _
      rw [if_neg f]
    rw [e] at z
    rcases z with z | z
    · exact absurd z h1
    · exact absurd z (h2 _)
theorem ownB_eq {dn : List Int} {Rs : List (Gang × Int)} {G : Gang} {n : Int} (nd : (Rs.map (·.2)).Nodup) (hn : ∀ R ∈ Rs, R.2 < n) (no : ∀ R ∈ Rs, R.1.name ≠ G.name) : decide (G.name ∈ (partRs dn (Rs ++ [(G, n)])).1.map (·.name)) = ownB dn Rs G := by
  have off : ∀ p : Gang × Int → Bool, G.name ∉ nm ((ord (Rs.filter p)).map (·.1)) := fun p z => by
    obtain ⟨F, hF, e⟩ := List.mem_map.mp z
    obtain ⟨R, hR, rfl⟩ := List.mem_map.mp hF
    exact no R (List.mem_filter.mp ((ord_perm _).mem_iff.mp hR)).1 e
  have e : (partRs dn (Rs ++ [(G, n)])).1 = ownOf dn ((ord (aboveOf G.rank Rs)).map (·.1) ++ G :: (ord (belowOf G.rank Rs)).map (·.1)) (zeros dn.length) := by
    rw [partRs_eq, ord_one nd hn, List.map_append]
    rfl
  have h := own_mem (dn := dn) (ld := zeros dn.length) (off fun R => decide (G.rank ≤ R.1.rank)) (off fun R => !decide (G.rank ≤ R.1.rank))
  have hb : ownB dn Rs G = fitB (addL (loadOf dn ((ord (aboveOf G.rank Rs)).map (·.1)) (zeros dn.length)) G.whole) dn := by
    unfold ownB owedB
    rw [partRs_eq]
  rw [e, hb]
  cases f : fitB (addL (loadOf dn ((ord (aboveOf G.rank Rs)).map (·.1)) (zeros dn.length)) G.whole) dn with
  | true => exact decide_eq_true (h.mpr f)
  | false =>
    refine decide_eq_false fun z => ?_
    have q := h.mp z
    have f' : fitB (addL (loadOf dn ((ord (Rs.filter fun R => decide (G.rank ≤ R.1.rank))).map (·.1)) (zeros dn.length)) G.whole) dn = false := f
    rw [f'] at q
    cases q
/-! texts among texts -/
theorem inV_strs (z : Str) : ∀ zs : List Str, inV (.str z) (zs.map V.str) = decide (z ∈ zs)
  | [] => by simp [inV]
  | y :: zs => by
    have ih := inV_strs z zs
    unfold inV at ih ⊢
    rw [List.map_cons, List.any_cons, ih]
    by_cases h : y = z
    · subst h
      simp [eqV]
    · have h' : ¬ z = y := fun q => h q.symm
      simp [eqV, h, h']
theorem flat_strs (zs : List Str) : (zs.map V.str).all flatV = true := by
  rw [List.all_eq_true]
  intro x hx
  obtain ⟨z, _, rfl⟩ := List.mem_map.mp hx
  rfl
/-! gangs as data -/
theorem sh_gang {G : Gang} {n : Int} (f : Fit (G, n)) : SeqAt.shaped (gangD G) = true := by
  unfold SeqAt.shaped
  have h1 : PyData.canLay0 (gangD G) = true := by
    have a := f.name
    have b := f.guild
    have c := f.how
    simp only at a b c
    simp [gangD, PyData.canLay0, PyData.canLayAll0, a, b, c, lay_ints]
  have h2 : (gangD G).depth = 2 := by simp [gangD, PyData.depth, PyData.depthAll, dpt_ints]
  rw [h1, h2]
  rfl
theorem eqv_gname {G G' : Gang} (h : PyData.eqv (gangD G) (gangD G') = true) : G.name = G'.name := by
  simp only [gangD, PyData.eqv, PyData.eqvAll, Bool.and_eq_true] at h
  exact eq_of_beq h.1
theorem eqv_gang {G : Gang} {n : Int} (f : Fit (G, n)) : PyData.eqv (gangD G) (gangD G) = true := SeqAt.eqv_refl_plain _ (shaped_plain (sh_gang f))
/-! promises -/
structure GIn (H : Hp) (dn : List Int) (g : Addr) (G : Gang) : Prop where
  at_ : GangAt H g G
  fit : Fit (G, 0)
  wlen : G.want.length = dn.length
def spOwed (K : PySem.W.Frag) (Ts : List Addr) : Sp := fun vs H Q _ => ∃ (du a g : Addr) (dn : List Int) (as : List Addr) (Rs : List (Gang × Int)) (G : Gang), vs = [.ref du, .ref a, .ref g] ∧ PIn K H du a dn as Rs ∧ GIn H dn g G ∧ Tabs Ts H ∧ ∀ H', Fw Ts H H' → Q (.bl (owedB dn Rs G)) H'
def spOwnW (K : PySem.W.Frag) (Ts : List Addr) : Sp := fun vs H Q _ => ∃ (du a g : Addr) (dn : List Int) (as : List Addr) (Rs : List (Gang × Int)) (G : Gang), vs = [.ref du, .ref a, .ref g] ∧ PIn K H du a dn as Rs ∧ GIn H dn g G ∧ Rs.length ≤ 90 ∧ (∀ R ∈ Rs, R.1.name ≠ G.name) ∧ Tabs Ts H ∧ ∀ H', Fw Ts H H' → Q (.bl (ownB dn Rs G)) H'
def spLFit (K : PySem.W.Frag) : Sp := fun vs H Q _ => ∃ (du b g : Addr) (dn ld : List Int) (G : Gang), vs = [.ref du, .ref b, .ref g] ∧ SqT K H du (dn.map V.int) ∧ dn.length ≤ 8 ∧ H b = some (.lst (ld.map V.int)) ∧ ld.length = dn.length ∧ GIn H dn g G ∧ ∀ H', Same H H' → Q (.bl (fitB (addL ld G.whole) dn)) H'
theorem GIn.kt {H H' : Hp} {dn : List Int} {g : Addr} {G : Gang} (k : KTu H H') (h : GIn H dn g G) : GIn H' dn g G := ⟨h.at_.kt k, h.fit, h.wlen⟩
theorem part_llen {dn : List Int} : ∀ (Gs : List Gang) (ld : List Int), (∀ G ∈ Gs, G.want.length = dn.length) → ld.length = dn.length → (loadOf dn Gs ld).length = dn.length
  | [], _, _, h => h
  | G :: Gs, ld, hw, h => by
    unfold loadOf
    split
    · exact part_llen Gs _ (fun F hF => hw F (List.mem_cons_of_mem _ hF)) (by rw [addL_len (by rw [whole_len, hw G List.mem_cons_self, h]), h])
    · exact part_llen Gs _ (fun F hF => hw F (List.mem_cons_of_mem _ hF)) h
theorem load_len {dn : List Int} {Rs : List (Gang × Int)} (hw : ∀ R ∈ Rs, R.1.want.length = dn.length) : (partRs dn Rs).2.2.length = dn.length := by
  rw [partRs_eq]
  refine part_llen _ _ (fun G hG => ?_) (by unfold zeros; rw [List.length_replicate])
  obtain ⟨R, hR, rfl⟩ := List.mem_map.mp hG
  exact hw R ((ord_perm Rs).mem_iff.mp hR)
/-- the rows and one more -/
theorem good_one {Rs : List (Gang × Int)} {G : Gang} {n : Int} (g : Good2 Rs) (f : Fit (G, n)) (hl : Rs.length ≤ 90) (hn : ∀ R ∈ Rs, R.2 < n) (no : ∀ R ∈ Rs, R.1.name ≠ G.name) : Good2 (Rs ++ [(G, n)]) := by
  refine ⟨fun R hR => ?_, ?_, ?_, by rw [List.length_append]; show Rs.length + 1 ≤ 100; omega⟩
  · rcases List.mem_append.mp hR with z | z
    · exact g.fit R z
    · rw [List.mem_singleton.mp z]
      exact f
  · rw [List.map_append, List.nodup_append]
    refine ⟨g.names, List.pairwise_singleton _ _, fun a ha b hb z => ?_⟩
    obtain ⟨R, hR, rfl⟩ := List.mem_map.mp ha
    have hb' : b = G.name := List.mem_singleton.mp hb
    exact no R hR (z.trans hb')
  · rw [List.map_append, List.nodup_append]
    refine ⟨g.nums, List.pairwise_singleton _ _, fun a ha b hb z => ?_⟩
    obtain ⟨R, hR, rfl⟩ := List.mem_map.mp ha
    have := hn R hR
    have hb' : b = n := List.mem_singleton.mp hb
    omega
end My

namespace My
open PySem PySem.Spec PyProof.Rows L2 GX GxR
abbrev s_scOwed : Stmt := topS 17
abbrev n_scOwed : List Str := ["due", "rows", "gang", "own", "lent", "load"]
theorem scOwed : FnScope n_scOwed ["due", "rows", "gang"] (defScope s_scOwed) := ⟨rfl, rfl, rfl, by decide +kernel, rfl, by decide +kernel, by decide +kernel⟩
abbrev s_scOwnW : Stmt := topS 18
abbrev n_scOwnW : List Str := ["due", "rows", "gang", "number", "own", "lent", "row"]
theorem scOwnW : FnScope n_scOwnW ["due", "rows", "gang"] (defScope s_scOwnW) := ⟨rfl, rfl, rfl, by decide +kernel, rfl, by decide +kernel, by decide +kernel⟩
abbrev s_scLFit : Stmt := topS 33
abbrev n_scLFit : List Str := ["_law_due_here", "_law_borne", "_law_gang_here", "_law_k"]
theorem scLFit : FnScope n_scLFit ["_law_due_here", "_law_borne", "_law_gang_here"] (defScope s_scLFit) := ⟨rfl, rfl, rfl, by decide +kernel, rfl, by decide +kernel, by decide +kernel⟩
section
variable {P : Program} {w : World} {K : PySem.W.Frag} {mg : Str → Option Value} {base : Heap}
theorem ok_owed {f fQ fP fF fW T1 T2 T3 : Addr} {fd fdQ fdP fdF fdW : FuncData} {k : Nat} {Ts : List Addr} (F : Fun K "owed" "owed" s_scOwed f fd) (i1 : T1 ∈ Ts) (i2 : T2 ∈ Ts) (i3 : T3 ∈ Ts)
    (GQ : FnOk P w K mg base CX0 k fQ fdQ ["due", "rows"] (spPartG K Ts)) (mQ : mg "parted_gangs" = some (.ref fQ)) (kQ : PySem.W.keepIn K (.ref fQ) = true) (bQ : L2.Binds K fdQ ["due", "rows"] [])
    (GP : FnOk P w K mg base CX0 k fP fdP ["one", "other"] (spZip K T1 (· + ·))) (mP : mg "amount_sum" = some (.ref fP)) (kP : PySem.W.keepIn K (.ref fP) = true) (bP : L2.Binds K fdP ["one", "other"] [])
    (GF : FnOk P w K mg base CX0 k fF fdF ["one", "other"] (spFits K T2)) (mF : mg "amount_fits" = some (.ref fF)) (kF : PySem.W.keepIn K (.ref fF) = true) (bF : L2.Binds K fdF ["one", "other"] [])
    (GW : FnOk P w K mg base CX0 k fW fdW ["gang"] (spWhole T3)) (mW : mg "whole_of" = some (.ref fW)) (kW : PySem.W.keepIn K (.ref fW) = true) (bW : L2.Binds K fdW ["gang"] []) :
    FnOk P w K mg base CX0 (k + 1) f fd ["due", "rows", "gang"] (spOwed K Ts) := by
  refine F.ok scOwed (fun vs H Q E h => ?_) (fun cdv A outer s H vs Q E hr h => ?_)
  · obtain ⟨du, a, g, dn, as, Rs, G, rfl, _⟩ := h
    rfl
  · obtain ⟨du, a, g, dn, as, Rs, G, rfl, I, gi, tH, q⟩ := h
    have d8 := I.d8
    have ll := load_len (dn := dn) I.wlen
    refine ⟨_, (pss_cons (ps_asg (pe_call GQ hr (by rfl) mQ kQ bQ .nil pass0 (pa_cons (pv 0) (pa_cons (pv 1) pa_nil))) (pg_tup rfl (pgs_cons (pg_name (i := 3) scOwed.nd rfl (.inl rfl)) (pgs_cons (pg_name (i := 4) scOwed.nd rfl (.inl rfl)) (pgs_cons (pg_name (i := 5) scOwed.nd rfl (.inl rfl)) pgs_nil)))))
      (pss_one (ps_ret (pe_call GF hr (by rfl) mF kF bF .nil pass0 (pa_cons (pe_call GP hr (by rfl) mP kP bP .nil pass0 (pa_cons (pv 5) (pa_cons (pe_call GW hr (by rfl) mW kW bW .nil pass0 (pa_cons (pv 2) pa_nil)) pa_nil))) (pa_cons (pv 0) pa_nil)))))), ?_⟩
    refine ⟨_, rfl, _, rfl, du, a, dn, as, Rs, rfl, I, tH, fun t o l e H1 os ls fw nt et eo el po pl ee => ?_⟩
    refine ⟨t, _, rfl, SqT.of et, rfl, _, _, rfl, _, _, rfl, _, _, rfl, rfl, ?_⟩
    have t1 := fw.tabs
    have wl := gi.fit.wlen
    have m0 := gi.fit.m0
    have m60 := gi.fit.m60
    simp only at wl m0 m60
    refine ⟨_, rfl, _, rfl, g, G, rfl, gi.at_.kt (fw.kt tH), by omega, m0, by omega, t1 _ i3, fun pw H2 T2' k2 npw epw => ?_⟩
    have f2 := Fw.step t1 i3 k2 T2'
    refine ⟨e, pw, (partRs dn Rs).2.2, G.whole, rfl, SqT.of (f2.kt t1 _ _ ee), SqT.of epw, by omega, f2.tabs _ i1, fun pm H3 T3' k3 npm epm => ?_⟩
    have f3 := f2.trans (Fw.step f2.tabs i1 k3 T3')
    refine ⟨_, rfl, pm, du, addL (partRs dn Rs).2.2 G.whole, dn, rfl, SqT.of epm, (fw.trans f3).seqT tH I.due, f3.tabs _ i2, fun H4 T4 k4 => ?_⟩
    exact q H4 (fw.trans (f3.trans (Fw.step f3.tabs i2 k4 T4)))
theorem ok_ownw {f fP fA : Addr} {fd fdP fdA : FuncData} {k : Nat} {Ts : List Addr} (F : Fun K "own_with" "own_with" s_scOwnW f fd) (X : Txt mg)
    (GP : FnOk P w K mg base CX0 k fP fdP ["due", "rows"] (spParted K Ts)) (mP : mg "parted" = some (.ref fP)) (kP : PySem.W.keepIn K (.ref fP) = true) (bP : L2.Binds K fdP ["due", "rows"] [])
    (GA : FnOk P w K mg base CX0 k fA fdA ["gang"] spGName) (mA : mg "name_of" = some (.ref fA)) (kA : PySem.W.keepIn K (.ref fA) = true) (bA : L2.Binds K fdA ["gang"] []) :
    FnOk P w K mg base CX0 (k + 1) f fd ["due", "rows", "gang"] (spOwnW K Ts) := by
  refine F.ok scOwnW (fun vs H Q E h => ?_) (fun cdv A outer s H vs Q E hr h => ?_)
  · obtain ⟨du, a, g, dn, as, Rs, G, rfl, _⟩ := h
    rfl
  · obtain ⟨du, a, g, dn, as, Rs, G, rfl, I, gi, l90, no, tH, q⟩ := h
    have d1 := I.d1
    have d8 := I.d8
    have la : as.length = Rs.length := I.prs.length
    refine ⟨_, (pss_cons (ps_set (i := 3) scOwnW.nd rfl (.inl rfl) (pe_op op_add (pe_callBK (cr_maxD rfl (hu_of hr)) (by rfl) X.max (by decide +kernel) (pa_cons (pe_lc (own := [("row", 6)]) (g := (gName 6)) (tt := tYes) rfl scOwnW.nd (pi_list (pv 1)) (blkOk_by (own := [("row", 6)]) (N := n_scOwnW) (sc := defScope s_scOwnW) (by decide +kernel)) (fun _ _ _ _ _ => (pg_name (i := 6) scOwnW.nd rfl (.inl rfl))) (fun _ _ _ _ _ => pts_nil) (fun _ _ _ _ _ => (pe_ix (r := rIxT K) ix_tup (pv 6) pe_int (fun _ _ => rfl)))) pa_nil) (pk_cons pe_int pk_nil)) pe_int))
      (pss_cons (ps_asg (pe_call GP hr (by rfl) mP kP bP .nil pass0 (pa_cons (pv 0) (pa_cons (pe_lst (StX.pa_star (pv 1) (pa_cons (pe_tup (pa_cons (pv 2) (pa_cons (pv 3) pa_nil))) pa_nil))) pa_nil))) (pg_tup rfl (pgs_cons (pg_name (i := 4) scOwnW.nd rfl (.inl rfl)) (pgs_cons (pg_name (i := 5) scOwnW.nd rfl (.inl rfl)) pgs_nil))))
      (pss_one (ps_ret (pe_cmpR op_in_seq (pe_call GA hr (by rfl) mA kA bA .nil pass0 (pa_cons (pv 2) pa_nil)) (pv 4) (by rfl)))))), ?_⟩
    refine ⟨_, rfl, a, rfl, ⟨_, I.rows⟩, fun D nD => ?_⟩
    refine lc_list (K := K) (a := a) (xs := as.map V.ref) (fun j H' => Same H H' ∧ H' D = some (.lst (((Rs.take j).map (·.2)).map V.int)))
      ⟨same_upd nD, upd_same⟩ (fun j H' _ p => p.1.seq I.rows) (fun j x H2 hx p => ?_) (fun H2 p => ?_)
    · obtain ⟨p1, p2⟩ := p
      obtain ⟨ra, hra, rfl⟩ := map_get hx
      obtain ⟨R, hR, ga, h1, h2⟩ := paired_get I.prs hra
      have hj : j < as.length := (List.getElem?_eq_some_iff.mp hra).1
      refine ⟨rfl, ?_⟩
      refine ⟨_, rfl, ra, _, 1, .int R.2, rfl, rfl, SqT.of (p1 _ _ h1), rfl, _, p2, ?_, same_put p1 nD, ?_⟩
      · rw [List.length_map, List.length_map, List.length_take]
        exact small63 (by omega)
      · rw [upd_same, List.take_add_one, hR, List.map_append, List.map_append]
        rfl
    obtain ⟨s2, e2⟩ := p
    rw [List.length_map, List.take_of_length_le (by omega)] at e2
    have go : ∀ n : Int, (∀ R ∈ Rs, R.2 < n) → (tSeq
        (tAsg (tCall (spParted K Ts) [] E0 (tCons (tVar 0) (tCons (tLst (StX.tStar K (tVar 1) (tCons (tTup (tCons (tVar 2) (tCons (tVar 3) tNil))) tNil))) tNil))) (gTup K 2 (gCons (gName 4) (gCons (gName 5) gNil))))
        (tRet (tOp (rIn K false) (tCall spGName [] E0 (tCons (tVar 2) tNil)) (tVar 4))) : TS) { nx := fun _ H' => Q .non H', rt := Q } [some (.ref du), some (.ref a), some (.ref g), some (.int n), none, none, none] H2 := fun n hn => by
      refine ⟨_, rfl, _, rfl, a, _, rfl, .inr (s2.seq I.rows), _, rfl, _, rfl, by show 2 ≤ sizeLine; decide, fun t nt => ⟨?_, fun l nl => ?_⟩⟩
      · rw [List.length_append, List.length_map]
        exact Nat.le_of_lt (small63 (by show as.length + 1 ≤ 200; omega))
      have s3 : Same H (upd (upd H2 t (.tup [.ref g, .int n])) l (.lst (as.map V.ref ++ [V.ref t]))) := s2.trans ((same_upd nt).trans (same_upd nl))
      have el : upd (upd H2 t (.tup [.ref g, .int n])) l (.lst (as.map V.ref ++ [V.ref t])) l = some (.lst ((as ++ [t]).map V.ref)) := by
        rw [upd_same, List.map_append]
        rfl
      have et : upd (upd H2 t (.tup [.ref g, .int n])) l (.lst (as.map V.ref ++ [V.ref t])) t = some (.tup [.ref g, .int n]) := same_upd nl _ _ upd_same
      generalize upd (upd H2 t (.tup [.ref g, .int n])) l (.lst (as.map V.ref ++ [V.ref t])) = H3 at s3 el et ⊢
      have I3 := I.same s3
      have pr3 : Paired (RowAt H3) (as ++ [t]) (Rs ++ [(G, n)]) := Paired.snoc I3.prs ⟨g, et, gi.at_.same s3⟩
      have ft : Fit (G, n) := ⟨gi.fit.name, gi.fit.guild, gi.fit.how, gi.fit.wlen, gi.fit.amt, gi.fit.m0, gi.fit.m60⟩
      have g3 := good_one I.good ft l90 hn no
      have f3 := Fw.same tH s3
      refine ⟨du, l, dn, as ++ [t], Rs ++ [(G, n)], rfl, ⟨I3.due, d1, d8, SqL.of el, pr3, g3, fun R hR => ?_⟩, f3.tabs, fun tp o l2 H4 f4 ntp etp no4 nl4 ol eo4 el4 => ?_⟩
      · rcases List.mem_append.mp hR with z | z
        · exact I.wlen R z
        · rw [List.mem_singleton.mp z]
          exact gi.wlen
      refine ⟨tp, _, rfl, SqT.of etp, rfl, _, _, rfl, _, _, rfl, rfl, ?_⟩
      have f04 := f3.trans f4
      refine ⟨_, rfl, g, G, rfl, gi.at_.kt (f04.kt tH), _, rfl, o, _, rfl, .inl (SqL.of eo4), rfl, flat_strs _, ?_⟩
      have e : (if false = true then !inV (.str G.name) (((partRs dn (Rs ++ [(G, n)])).1.map (·.name)).map V.str) else inV (.str G.name) (((partRs dn (Rs ++ [(G, n)])).1.map (·.name)).map V.str)) = ownB dn Rs G := by
        rw [if_neg (by decide), inV_strs]
        exact ownB_eq I.good.nums hn no
      rw [e]
      exact q H4 f04
    refine ⟨D, Rs.map (·.2), .int 0, rfl, rfl, SqL.of e2, fun e0 => ?_, fun m hm hall => ?_⟩
    · have hr0 : Rs = [] := List.map_eq_nil_iff.mp e0
      exact ⟨0, 1, rfl, rfl, go _ fun R hR => by rw [hr0] at hR; exact (nomatch hR)⟩
    · refine ⟨m, 1, rfl, rfl, go _ fun R hR => ?_⟩
      have := hall R.2 (List.mem_map.mpr ⟨R, hR, rfl⟩)
      omega
theorem ok_lfit {f : Addr} {fd : FuncData} {k : Nat} (F : Fun K "_law_fits" "_law_fits" s_scLFit f fd) (X : Txt mg) : FnOk P w K mg base CX0 (k + 1) f fd ["_law_due_here", "_law_borne", "_law_gang_here"] (spLFit K) := by
  refine F.ok scLFit (fun vs H Q E h => ?_) (fun cdv A outer s H vs Q E hr h => ?_)
  · obtain ⟨du, b, g, dn, ld, G, rfl, _⟩ := h
    rfl
  · obtain ⟨du, b, g, dn, ld, G, rfl, hD, d8, eb, hl, gi, q⟩ := h
    have m0 := gi.fit.m0
    have m60 := gi.fit.m60
    simp only at m0 m60
    have wl := gi.wlen
    obtain ⟨wa, g1, g2⟩ := gi.at_
    refine ⟨_, (pss_one (ps_ret (pe_callB (cr_all rfl) (by rfl) X.all (by decide +kernel) (pa_cons (pe_lc (own := [("_law_k", 3)]) (g := (gName 3)) (tt := tYes) rfl scLFit.nd (pi_range1 (by rfl) X.range (pa_cons (pe_callB call_len_seq (by rfl) X.len PySem.boot_len (pa_cons (pv 0) pa_nil)) pa_nil)) (blkOk_by (own := [("_law_k", 3)]) (N := n_scLFit) (sc := defScope s_scLFit) (by decide +kernel)) (fun _ _ _ _ _ => (pg_name (i := 3) scLFit.nd rfl (.inl rfl))) (fun _ _ _ _ _ => pts_nil) (fun _ _ _ _ _ => (pe_cmpR op_le (pe_op op_add (pe_ix (r := rIxL K) ix_list (pv 1) (pv 3) (fun _ _ => rfl)) (pe_op op_mul (pe_ix (r := rIxT K) ix_tup (pv 2) pe_int (fun _ _ => rfl)) (pe_ix (r := rIxT K) ix_tup (pe_ix (r := rIxT K) ix_tup (pv 2) pe_int (fun _ _ => rfl)) (pv 3) (fun _ _ => rfl)))) (pe_ix (r := rIxT K) ix_tup (pv 0) (pv 3) (fun _ _ => rfl)) (nomark _)))) pa_nil)))), ?_⟩
    refine ⟨_, rfl, du, _, rfl, .inr hD, (dn.length : Int), by rw [List.length_map], by omega, by omega, fun D nD => ?_⟩
    rw [Int.toNat_natCast]
    refine lc_range (lo := 0) (n := dn.length) (fun j H' => Same H H' ∧ H' D = some (.lst (((List.zipWith (fun a b : Int => decide (a ≤ b)) (addL ld G.whole) dn).take j).map V.bl)))
      ⟨same_upd nD, upd_same⟩ (fun j H4 hj p => ?_) (fun H4 p => ?_)
    · obtain ⟨q1, q2⟩ := p
      have hld : j < ld.length := by omega
      have hw : j < G.want.length := by omega
      have lm : (addL ld G.whole).length = ld.length := addL_len (by rw [whole_len, wl, hl])
      have ew : G.whole[j]? = some (G.many * G.want[j]) := by
        unfold Gang.whole
        rw [List.getElem?_map, List.getElem?_eq_getElem hw, Int.mul_comm]
        rfl
      have em : (addL ld G.whole)[j]? = some (ld[j] + G.many * G.want[j]) := by
        unfold addL
        rw [List.getElem?_zipWith, List.getElem?_eq_getElem hld, ew]
      refine ⟨rfl, ?_⟩
      refine ⟨_, rfl, _, rfl, b, _, _, .int ld[j], rfl, rfl, SqL.of (q1 _ _ eb), at_ints (List.getElem?_eq_getElem hld), _, rfl, g, _, 3, .int G.many, rfl, rfl, SqT.of (q1 _ _ g1), rfl, _, rfl, g, _, 4, .ref wa, rfl, rfl, SqT.of (q1 _ _ g1), rfl, _, rfl, wa, _, _, .int G.want[j], rfl, rfl, SqT.of (q1 _ _ g2), at_ints (List.getElem?_eq_getElem hw),
        G.many, G.want[j], rfl, rfl, .inl ⟨by omega, by omega⟩, _, _, rfl, rfl, ?_⟩
      refine ⟨_, rfl, _, rfl, du, _, _, .int dn[j], rfl, rfl, same_seqT q1 hD, at_ints (List.getElem?_eq_getElem hj), _, _, rfl, rfl, ?_⟩
      refine ⟨_, q2, ?_, same_put q1 nD, ?_⟩
      · rw [List.length_map, List.length_take]
        exact small63 (by omega)
      · rw [upd_same, List.take_add_one, List.getElem?_zipWith, em, List.getElem?_eq_getElem hj, List.map_append]
        rfl
    · obtain ⟨q1, q2⟩ := p
      have lm : (addL ld G.whole).length = ld.length := addL_len (by rw [whole_len, wl, hl])
      rw [List.take_of_length_le (by rw [List.length_zipWith]; omega)] at q2
      exact ⟨D, _, rfl, SqL.of q2, q H4 q1⟩
end
end My

namespace My
open PySem PySem.Spec PyProof.Rows L2 GX GxR
theorem names3 {K : PySem.W.Frag} {neg : Bool} {i : Nat} {l o : Addr} {zs ys : List Str} {x0 x1 x2 x4 x5 x6 x7 x8 x9 x10 x11 x12 x13 x14 : Option V} {H : Hp} {Q : VK} (hi : ([x0, x1, x2, some (.ref o), x4, x5, x6, x7, x8, x9, x10, x11, x12, x13, x14] : L2.St)[i]? = some (some (.ref l)))
    (el : H l = some (.lst (zs.map V.str))) (eo : H o = some (.lst (ys.map V.str))) (hz : zs.length ≤ 100)
    (q : ∀ D H', Same H H' → H D = none → H' D = some (.lst ((zs.filter fun z => if neg then !decide (z ∈ ys) else decide (z ∈ ys)).map V.str)) → Q (.ref D) H') :
    tLc (iList K (tVar i)) (gName 12) (tTest (tOp (rIn K neg) (tVar 12) (tVar 3))) (tVar 12) [12] [x0, x1, x2, some (.ref o), x4, x5, x6, x7, x8, x9, x10, x11, x12, x13, x14] H Q := by
  have ef : (fun z => if neg then !decide (z ∈ ys) else decide (z ∈ ys)) = fun z => if neg then !inV (.str z) (ys.map V.str) else inV (.str z) (ys.map V.str) := by
    funext z
    rw [inV_strs]
  rw [ef] at q
  refine ⟨_, hi, l, rfl, ⟨_, SqL.of el⟩, fun D nD => ?_⟩
  refine lc_list (K := K) (a := l) (xs := zs.map V.str) (fun j H' => Same H H' ∧ H' D = some (.lst (((zs.take j).filter fun z => if neg then !inV (.str z) (ys.map V.str) else inV (.str z) (ys.map V.str)).map V.str)))
    ⟨same_upd nD, upd_same⟩ (fun j H' _ p => SqL.of (p.1 _ _ el)) (fun j x H2 hx p => ?_) (fun H2 p => ?_)
  · obtain ⟨p1, p2⟩ := p
    rw [List.getElem?_map] at hx
    obtain ⟨z, hz', rfl⟩ := Option.map_eq_some_iff.mp hx
    have hj : j < zs.length := (List.getElem?_eq_some_iff.mp hz').1
    refine ⟨rfl, ?_⟩
    refine ⟨_, rfl, _, rfl, o, _, rfl, .inl (SqL.of (p1 _ _ eo)), rfl, flat_strs _, _, rfl, ite2 (fun e => ?_) (fun e => ?_)⟩
    · refine ⟨_, rfl, _, p2, ?_, same_put p1 nD, ?_⟩
      · rw [List.length_map]
        have h1 := List.length_filter_le (fun z => if neg then !inV (.str z) (ys.map V.str) else inV (.str z) (ys.map V.str)) (zs.take j)
        rw [List.length_take] at h1
        exact small63 (by omega)
      · rw [upd_same, List.take_add_one, hz', List.filter_append, Option.toList_some, List.filter_cons_of_pos (p := fun z => if neg then !inV (.str z) (ys.map V.str) else inV (.str z) (ys.map V.str)) e, List.map_append]
        rfl
    · refine ⟨p1, ?_⟩
      rw [List.take_add_one, hz', List.filter_append, Option.toList_some, List.filter_cons_of_neg (p := fun z => if neg then !inV (.str z) (ys.map V.str) else inV (.str z) (ys.map V.str)) e, List.filter_nil, List.append_nil]
      exact p2
  · obtain ⟨p1, p2⟩ := p
    rw [List.length_map, List.take_of_length_le (Nat.le_refl _)] at p2
    exact q D H2 p1 nD p2
theorem names10 {K : PySem.W.Frag} {neg : Bool} {i : Nat} {l o : Addr} {zs ys : List Str} {x0 x1 x2 x3 x4 x5 x6 x7 x8 x9 x11 x12 x13 x14 : Option V} {H : Hp} {Q : VK} (hi : ([x0, x1, x2, x3, x4, x5, x6, x7, x8, x9, some (.ref o), x11, x12, x13, x14] : L2.St)[i]? = some (some (.ref l)))
    (el : H l = some (.lst (zs.map V.str))) (eo : H o = some (.lst (ys.map V.str))) (hz : zs.length ≤ 100)
    (q : ∀ D H', Same H H' → H D = none → H' D = some (.lst ((zs.filter fun z => if neg then !decide (z ∈ ys) else decide (z ∈ ys)).map V.str)) → Q (.ref D) H') :
    tLc (iList K (tVar i)) (gName 12) (tTest (tOp (rIn K neg) (tVar 12) (tVar 10))) (tVar 12) [12] [x0, x1, x2, x3, x4, x5, x6, x7, x8, x9, some (.ref o), x11, x12, x13, x14] H Q := by
  have ef : (fun z => if neg then !decide (z ∈ ys) else decide (z ∈ ys)) = fun z => if neg then !inV (.str z) (ys.map V.str) else inV (.str z) (ys.map V.str) := by
    funext z
    rw [inV_strs]
  rw [ef] at q
  refine ⟨_, hi, l, rfl, ⟨_, SqL.of el⟩, fun D nD => ?_⟩
  refine lc_list (K := K) (a := l) (xs := zs.map V.str) (fun j H' => Same H H' ∧ H' D = some (.lst (((zs.take j).filter fun z => if neg then !inV (.str z) (ys.map V.str) else inV (.str z) (ys.map V.str)).map V.str)))
    ⟨same_upd nD, upd_same⟩ (fun j H' _ p => SqL.of (p.1 _ _ el)) (fun j x H2 hx p => ?_) (fun H2 p => ?_)
  · obtain ⟨p1, p2⟩ := p
    rw [List.getElem?_map] at hx
    obtain ⟨z, hz', rfl⟩ := Option.map_eq_some_iff.mp hx
    have hj : j < zs.length := (List.getElem?_eq_some_iff.mp hz').1
    refine ⟨rfl, ?_⟩
    refine ⟨_, rfl, _, rfl, o, _, rfl, .inl (SqL.of (p1 _ _ eo)), rfl, flat_strs _, _, rfl, ite2 (fun e => ?_) (fun e => ?_)⟩
    · refine ⟨_, rfl, _, p2, ?_, same_put p1 nD, ?_⟩
      · rw [List.length_map]
        have h1 := List.length_filter_le (fun z => if neg then !inV (.str z) (ys.map V.str) else inV (.str z) (ys.map V.str)) (zs.take j)
        rw [List.length_take] at h1
        exact small63 (by omega)
      · rw [upd_same, List.take_add_one, hz', List.filter_append, Option.toList_some, List.filter_cons_of_pos (p := fun z => if neg then !inV (.str z) (ys.map V.str) else inV (.str z) (ys.map V.str)) e, List.map_append]
        rfl
    · refine ⟨p1, ?_⟩
      rw [List.take_add_one, hz', List.filter_append, Option.toList_some, List.filter_cons_of_neg (p := fun z => if neg then !inV (.str z) (ys.map V.str) else inV (.str z) (ys.map V.str)) e, List.filter_nil, List.append_nil]
      exact p2
  · obtain ⟨p1, p2⟩ := p
    rw [List.length_map, List.take_of_length_le (Nat.le_refl _)] at p2
    exact q D H2 p1 nD p2

theorem sub_filter : ∀ {ow Gs : List Gang}, ow.Sublist Gs → (nm Gs).Nodup → Gs.filter (fun G => decide (G.name ∈ nm ow)) = ow
  | _, _, .slnil, _ => rfl
  | ow, G :: Gs, .cons _ h, nd => by
    have nd' := List.nodup_cons.mp (show (G.name :: nm Gs).Nodup from nd)
    have no : ¬ (decide (G.name ∈ nm ow)) = true := fun z => nd'.1 ((nm_sub h).subset (of_decide_eq_true z))
    rw [List.filter_cons_of_neg (p := fun G' : Gang => decide (G'.name ∈ nm ow)) no]
    exact sub_filter h nd'.2
  | _, G :: Gs, .cons₂ (l₁ := ow) _ h, nd => by
    have nd' := List.nodup_cons.mp (show (G.name :: nm Gs).Nodup from nd)
    have yes : (decide (G.name ∈ nm (G :: ow))) = true := decide_eq_true (show G.name ∈ G.name :: nm ow from List.mem_cons_self)
    rw [List.filter_cons_of_pos (p := fun G' : Gang => decide (G'.name ∈ nm (G :: ow))) yes]
    have e : Gs.filter (fun G' => decide (G'.name ∈ nm (G :: ow))) = Gs.filter (fun G' => decide (G'.name ∈ nm ow)) := by
      refine List.filter_congr fun G' hG' => ?_
      have ne : G'.name ≠ G.name := fun z => nd'.1 (by rw [← z]; exact List.mem_map.mpr ⟨G', hG', rfl⟩)
      show decide (G'.name ∈ G.name :: nm ow) = _
      by_cases hm : G'.name ∈ nm ow
      · rw [decide_eq_true hm, decide_eq_true (List.mem_cons_of_mem _ hm)]
      · rw [decide_eq_false hm, decide_eq_false fun z => (List.mem_cons.mp z).elim ne hm]
    rw [e, sub_filter h nd'.2]
theorem own_one (dn : List Int) (Gs : List Gang) (G : Gang) (ld : List Int) : ownOf dn (Gs ++ [G]) ld = ownOf dn Gs ld ++ (if fitB (addL (loadOf dn Gs ld) G.whole) dn = true then [G] else []) ∧ loadOf dn (Gs ++ [G]) ld = if fitB (addL (loadOf dn Gs ld) G.whole) dn = true then addL (loadOf dn Gs ld) G.whole else loadOf dn Gs ld := by
  obtain ⟨h1, h2, h3⟩ := own_app dn Gs [G] ld
  rw [h1, h3]
  refine ⟨?_, ?_⟩
  · congr 1
  · rw [loadOf]
    split <;> rfl
theorem take_borne {dn : List Int} {Gs : List Gang} (hw : ∀ G ∈ Gs, G.want.length = dn.length) : ∀ i, borneL dn.length (ownOf dn (Gs.take i) (zeros dn.length)) = loadOf dn (Gs.take i) (zeros dn.length)
  | 0 => by
    rw [List.take_zero]
    exact borne_nil _
  | i + 1 => by
    rw [List.take_add_one]
    cases hG : Gs[i]? with
    | none =>
      rw [Option.toList_none, List.append_nil]
      exact take_borne hw i
    | some G =>
      rw [Option.toList_some]
      obtain ⟨h1, h2⟩ := own_one dn (Gs.take i) G (zeros dn.length)
      rw [h1, h2]
      have ih := take_borne hw i
      split
      · rw [borne_snoc (hw G (List.mem_of_getElem? hG)), ih]
      · rw [List.append_nil, ih]
theorem all_borne {dn : List Int} {Gs : List Gang} (hw : ∀ G ∈ Gs, G.want.length = dn.length) : borneL dn.length (ownOf dn Gs (zeros dn.length)) = loadOf dn Gs (zeros dn.length) := by
  have h := take_borne hw Gs.length
  rw [List.take_length] at h
  exact h
/-- the names told of the first m -/
theorem filt_take {m : Nat} {Gs As Bs : List Gang} (nd : (nm Gs).Nodup) (ha : As.Sublist (Gs.take m)) (hb : Bs.Sublist (Gs.drop m)) : (nm (As ++ Bs)).filter (fun z => decide (z ∈ (nm Gs).take m)) = nm As := by
  have e : (nm Gs).take m = nm (Gs.take m) := List.map_take.symm
  have nd2 : (nm (Gs.take m) ++ nm (Gs.drop m)).Nodup := by
    have : nm (Gs.take m) ++ nm (Gs.drop m) = nm Gs := by
      unfold nm
      rw [← List.map_append, List.take_append_drop]
    rw [this]
    exact nd
  have ap := (List.nodup_append.mp nd2).2.2
  have e2 : nm (As ++ Bs) = nm As ++ nm Bs := List.map_append
  rw [e, e2, List.filter_append, List.filter_eq_self.mpr fun z hz => decide_eq_true ((nm_sub ha).subset hz), List.filter_eq_nil_iff.mpr fun z hz => ?_, List.append_nil]
  intro q
  exact ap z (of_decide_eq_true q) z ((nm_sub hb).subset hz) rfl
theorem paired_take {α β : Type} {R : α → β → Prop} : ∀ {xs : List α} {ys : List β}, Paired R xs ys → ∀ m, Paired R (xs.take m) (ys.take m)
  | _, _, .nil, m => by
    rw [List.take_nil, List.take_nil]
    exact .nil
  | _, _, .cons h t, 0 => .nil
  | _, _, .cons h t, m + 1 => .cons h (paired_take t m)
theorem rg60 : ∀ n : Fin 61, Builtin.Range.small 0 (n.val : Int) (1 + (n.val : Int) / 6) = true := by decide +kernel
theorem rg_six {n : Nat} (h : n ≤ 60) : ∃ m, RgC 0 (n : Int) (1 + (n : Int) / 6) m :=
  ⟨_, by omega, by omega, rg60 ⟨n, by omega⟩, PyProof.Rows.rangeSize_toNat _ _ _⟩
theorem sh_two {zs ys : List Str} (h : ∀ z ∈ zs, PySem.PyData.strOk z = true) (h' : ∀ z ∈ ys, PySem.PyData.strOk z = true) : SeqAt.shaped (.tuple [.list (zs.map PyData.str), .list (ys.map PyData.str)]) = true := by
  unfold SeqAt.shaped
  have h1 : PyData.canLay0 (.tuple [.list (zs.map PyData.str), .list (ys.map PyData.str)]) = true := by
    simp [PyData.canLay0, PyData.canLayAll0, lay_strs h, lay_strs h']
  have h2 : (PyData.tuple [.list (zs.map PyData.str), .list (ys.map PyData.str)]).depth ≤ 64 := by
    simp only [PyData.depth, PyData.depthAll, dpt_strs]
    decide
  rw [h1, decide_eq_true h2]
  rfl
theorem eqv_self {d : PyData} (h : SeqAt.shaped d = true) : PyData.eqv d d = true := SeqAt.eqv_refl_plain _ (shaped_plain h)
end My

set_option maxHeartbeats 2000000
/-! sets of texts: made, filled, walked in sorted order; set comprehensions of texts. -/
namespace SX
open PySem PySem.Spec PyProof.Rows L2 PpSet
def txtOf (e : Int × Value) : Str := match e.2 with | .str z _ => z | _ => Str.ofString ""
/-- an entry of the text z -/
def IsT (P : Program) (w : World) (e : Int × Value) : Prop := ∃ z t, e.2 = Value.str z t ∧ e.1 = (strKind P w).hash z
/-- the set of the texts zs at a; its table rises and can be walked -/
def TSet (P : Program) (w : World) (h : Heap) (a : Addr) (zs : List Str) : Prop :=
  ∃ o es ep t, h.get? a = some o ∧ o.ExactSet ∧ o.data = .set es ep t ∧ (∀ e ∈ es.toList, IsT P w e) ∧ (es.toList.map txtOf).Perm zs ∧ zs.Nodup ∧
    es.size < scanBound ∧ t.fits es.size = true ∧ Ris t.place.toList ∧ (w.params.followText "set-order" = true ∨ t.led = true)
section
variable {P : Program} {w : World} {h h' : Heap} {a : Addr} {zs : List Str}
theorem TSet.at (R : TSet P w h a zs) (k : ∀ o, h.get? a = some o → h'.get? a = some o) : TSet P w h' a zs := by
  obtain ⟨o, es, ep, t, ho, r⟩ := R
  exact ⟨o, es, ep, t, k o ho, r⟩
theorem TSet.size (R : TSet P w h a zs) : ∃ o es ep t, h.get? a = some o ∧ o.data = .set es ep t ∧ es.size = zs.length := by
  obtain ⟨o, es, ep, t, ho, _, hd, _, pm, _⟩ := R
  exact ⟨o, es, ep, t, ho, hd, by rw [← Array.length_toList, ← List.length_map (f := txtOf), pm.length_eq]⟩
theorem isT_is {e : Int × Value} (g : IsT P w e) (z : Str) : (strKind P w).is z e.2 = true ↔ txtOf e = z := by
  obtain ⟨y, t, h1, _⟩ := g
  unfold txtOf
  rw [h1]
  simp [PySem.strKind, Value.isStrOf]
theorem isT_elems {l : List (Int × Value)} (g : ∀ e ∈ l, IsT P w e) : ElemsOf (strKind P w) l := fun e he => by
  obtain ⟨z, t, h1, h2⟩ := g e he
  exact ⟨⟨z, by rw [h1]; exact strKind_is P w z t, h2⟩, by rw [h1]; rfl⟩
theorem TSet.setOf (R : TSet P w h a zs) : h.SetOf (strKind P w) a (fun z => decide (z ∈ zs)) zs.length := by
  obtain ⟨o, es, ep, t, ho, hx, hd, g, pm, nd, hb, hf, _⟩ := R
  refine ⟨o, es, ep, t, ho, hx, hd, isT_elems g, fun z => ?_, hb, hf, by rw [← Array.length_toList, ← List.length_map (f := txtOf), pm.length_eq]⟩
  rw [decide_eq_true_eq, ← pm.mem_iff, List.mem_map]
  exact ⟨fun ⟨e, he, q⟩ => ⟨e, he, (isT_is (g e he) z).2 q⟩, fun ⟨e, he, q⟩ => ⟨e, he, (isT_is (g e he) z).1 q⟩⟩
end
section
variable {P : Program} {w : World} {A : Around} {E : Value → Shared → Prop} {s : Shared} {a : Addr} {zs : List Str}
/-- what is stored, and stored again where the table grows -/
theorem stored {g : Bool → Sem Unit} (hg : ∀ (b : Bool) (s₁ : Shared) (Q' : Unit → Shared → Prop), Q' () s₁ → wpAny (model P w) A (g b) Q' E s₁) {o : Obj} {es es1 : Array (Int × Value)} {ep : Nat} {t t2 : SetTable}
    (ho : s.heap.get? a = some o) (hex : o.ExactSet) (hd : o.data = .set es ep t) (g1 : ∀ e ∈ es1.toList, IsT P w e) (p1 : (es1.toList.map txtOf).Perm zs) (nd : zs.Nodup) (hb : es1.size < scanBound) (hf : t2.fits es1.size = true)
    (hr : Ris t2.place.toList) (hl : w.params.followText "set-order" = true ∨ t2.led = true) {d : Bool} {R : Option Bool → Shared → Prop} (hR : ∀ h', Heap.SameBut a s.heap h' → TSet P w h' a zs → R (some true) { s with heap := h' }) :
    wpAny (model P w) A (do
        storeSet a es1 t2
        if (!d && t2.tooFull) = true then do
            g (relayAll t2 es1 (SetTable.grown es1.size)).2.2
            storeSet a (relayAll t2 es1 (SetTable.grown es1.size)).1 (relayAll t2 es1 (SetTable.grown es1.size)).2.1
            pure (some true)
          else pure (some true)) R E s := by
  refine wpAny_bind (wpAny_storeSet_of ho hd ?_ (fits_of_scanBound hb))
  have ho1 := storeB_at (es' := es1) (t' := t2) ho hd
  have sb1 := Heap.SameBut.update s.heap a (Obj.putSet es1 t2)
  split
  · have pm := relayAll_perm t2 es1 (SetTable.grown es1.size)
    have q1 := relayAll_fits t2 es1 (SetTable.grown es1.size)
    have q2 := relayAll_ris t2 es1 (SetTable.grown es1.size)
    have q3 := relayAll_led t2 es1 (SetTable.grown es1.size)
    generalize relayAll t2 es1 (SetTable.grown es1.size) = Z at pm q1 q2 q3 ⊢
    obtain ⟨es2, t3, gave⟩ := Z
    dsimp only at pm q1 q2 q3 ⊢
    have hb2 : es2.size < scanBound := by rw [← Array.length_toList, pm.length_eq, Array.length_toList]; exact hb
    refine wpAny_bind (hg _ _ _ (wpAny_bind (wpAny_storeSet_of ho1 rfl ?_ (fits_of_scanBound hb2))))
    exact wpAny_pure (hR _ (sb1.trans (Heap.SameBut.update _ a _)) ⟨_, es2, _, t3, storeB_at (es' := es2) (t' := t3) ho1 rfl, hex, rfl, fun e he => g1 e (pm.mem_iff.mp he), (pm.map txtOf).trans p1, nd, hb2, q1, q2, hl.imp id fun z => by rw [q3]; exact z⟩)
  · exact wpAny_pure (hR _ sb1 ⟨_, es1, _, t2, ho1, hex, rfl, g1, p1, nd, hb, hf, hr, hl⟩)
/-- the texts with z -/
def more (zs : List Str) (z : Str) : List Str := if z ∈ zs then zs else z :: zs
theorem add_hashed {z : Str} {tk : Tok} {Q : Bool → Shared → Prop} (R : TSet P w s.heap a zs) (room : zs.length + 1 < scanBound) (hQ : ∀ b h', Heap.SameBut a s.heap h' → TSet P w h' a (more zs z) → Q b { s with heap := h' }) :
    wpAny (model P w) A (setAddHashed a (.str z tk) ((strKind P w).hash z)) Q E s := by
  have R0 := R
  obtain ⟨o, es, ep, t, ho, hex, hd, g, pm, nd, hb, hf, hr, hl⟩ := R
  have hkey : (strKind P w).is z (.str z tk) = true := strKind_is P w z tk
  have hsc : (Value.str z tk).scannable = true := rfl
  have hel : ElemsOf (strKind P w) es.toList := isT_elems g
  have hlen : es.size = zs.length := by rw [← Array.length_toList, ← List.length_map (f := txtOf), pm.length_eq]
  unfold setAddHashed setAddHashedIn
  refine wpAny_holding (wpAny_bind (wpAny_setState_of ho hd hf ?_))
  dsimp only
  rw [byScan_of hsc hb hel]
  simp only [↓reduceIte]
  unfold setAddByScan
  refine wpAny_bind (wpAny_bind (wpAny_rule (wpAny_bind (wpAny_setScan_of hkey ho hd hf hel ?_))))
  cases hfi : List.findIdx? (fun e => (strKind P w).is z e.2) es.toList with
  | some j =>
    dsimp only
    obtain ⟨hj, pj, _⟩ := List.findIdx?_eq_some_iff_getElem.mp hfi
    have hz : z ∈ zs := pm.mem_iff.mp (List.mem_map.mpr ⟨es.toList[j], List.getElem_mem hj, (isT_is (g _ (List.getElem_mem hj)) z).1 pj⟩)
    refine wpAny_pure (wpAny_pure (hQ _ s.heap (Heap.SameBut.refl a s.heap) ?_))
    unfold more
    rw [if_pos hz]
    exact R0
  | none =>
    dsimp only
    have hz : z ∉ zs := fun q => by
      obtain ⟨e, he, q⟩ := List.mem_map.mp (pm.mem_iff.mpr q)
      have c := List.findIdx?_eq_none_iff.mp hfi e he
      rw [(isT_is (g e he) z).2 q] at c
      cases c
    have hgw : ∀ (b : Bool) {s₁ : Shared} {Q' : Unit → Shared → Prop}, Q' () s₁ → wpAny (model P w) A (match b with | true => rule "set.scan.the-table-gave-way" | false => pure ()) Q' E s₁ :=
      fun b s₁ Q' q => by cases b <;> first | exact wpAny_pure q | exact wpAny_rule q
    have pe := layNew_perm t es ((strKind P w).hash z) (.str z tk)
    have f1 := layNew_fits t es ((strKind P w).hash z) (.str z tk)
    have r1 := layNew_ris t es ((strKind P w).hash z) (.str z tk) hr
    have l1 := layNew_led t es ((strKind P w).hash z) (.str z tk)
    generalize layNew t es ((strKind P w).hash z) (.str z tk) = Z at pe f1 r1 l1 ⊢
    obtain ⟨es1, t1, wasDummy, gave⟩ := Z
    dsimp only at pe f1 r1 l1 ⊢
    rw [Array.toList_push] at pe
    have pc : es1.toList.Perm (((strKind P w).hash z, Value.str z tk) :: es.toList) := pe.trans (List.perm_append_singleton _ _)
    have p1 : (es1.toList.map txtOf).Perm (z :: zs) := (pc.map txtOf).trans (pm.cons z)
    have g1 : ∀ e ∈ es1.toList, IsT P w e := fun e he => by
      rcases List.mem_cons.mp (pc.mem_iff.mp he) with q | q
      · rw [q]
        exact ⟨z, tk, rfl, rfl⟩
      · exact g e q
    have nd1 : (z :: zs).Nodup := List.nodup_cons.mpr ⟨hz, nd⟩
    have hb1 : es1.size < scanBound := by
      rw [← Array.length_toList, pc.length_eq, List.length_cons, Array.length_toList, hlen]
      exact room
    have led : w.params.followText "set-order" = true ∨ t1.led = true := hl.imp id fun q => by rw [l1]; exact q
    have fin : ∀ b h', Heap.SameBut a s.heap h' → TSet P w h' a (z :: zs) → Q b { s with heap := h' } := fun b h' sb r => by
      have q := hQ b h' sb
      unfold more at q
      rw [if_neg hz] at q
      exact q r
    refine wpAny_bind (hgw _ ?_)
    split
    · refine wpAny_bind ?_
      rw [hashByValue_scannable 8 hsc]
      refine wpAny_pure ?_
      refine stored ?_ ho hex hd g1 p1 nd1 hb1 ?_ ?_ ?_ ?_
      · intro b s₁ Q' q; cases b <;> first | exact wpAny_pure q | exact wpAny_rule q
      · first | (split <;> first | exact f1 | exact SetTable.fits_plain_off f1) | exact f1
      · first | (split <;> exact r1) | exact r1
      · first | (split <;> exact led) | exact led
      · intro h' sb r; dsimp only; exact wpAny_pure (fin _ h' sb r)
    · refine wpAny_bind (wpAny_pure ?_)
      simp only [↓reduceIte]
      refine stored ?_ ho hex hd g1 p1 nd1 hb1 f1 r1 led ?_
      · intro b s₁ Q' q; cases b <;> first | exact wpAny_pure q | exact wpAny_rule q
      · intro h' sb r; dsimp only; exact wpAny_pure (fin _ h' sb r)
/-- xs.add(z) -/
theorem add_run {z : Str} {tk : Tok} {Q : Value → Shared → Prop} (R : TSet P w s.heap a zs) (room : zs.length + 1 < scanBound) (hQ : ∀ h', Heap.SameBut a s.heap h' → TSet P w h' a (more zs z) → Q .none { s with heap := h', toks := s.toks + 1 }) :
    wpAny (model P w) A (call (.builtin "set.add") [.ref a, .str z tk]) Q E s := by
  refine wpAny_call_entry F.slot_set_add (R.setOf).typeIs F.entry_set_add ?_ (F.args_set_add_2 _ _)
  unfold Builtin.«set.add» Builtin.Frozenset.oneOther
  simp only [List.isEmpty_nil, bind_assoc]
  unfold Builtin.Frozenset.addrOf setAdd
  refine wpAny_bind (wpAny_pure ?_)
  try dsimp only
  refine wpAny_bind (wpAny_pure ?_)
  try dsimp only
  refine wpAny_bind (wpAny_holding (wpAny_bind ((strKind P w).pyHash (strKind_is P w z tk) ?_)))
  refine add_hashed (s := { s with toks := s.toks + 1 }) R room fun b h' sb r => ?_
  show wpAny _ _ (ret Value.none) _ _ _
  exact wpAny_pure ⟨_, rfl, hQ h' sb r⟩
theorem fresh_set {h : Heap} (P : Program) (w : World) : TSet P w (h.push { cls := .type "set", dict := none, data := .set #[] 0 (.fresh 0 0 (!w.params.followText "set-order")) }) h.objs.size [] :=
  ⟨_, #[], 0, _, Heap.get?_push_size _ rfl, ⟨rfl, rfl, rfl⟩, rfl, (fun e he => by simp at he), .refl _, .nil, by decide, by rfl, List.Pairwise.nil, by
    show _ ∨ (!w.params.followText "set-order") = true
    cases w.params.followText "set-order"
    · exact .inr rfl
    · exact .inl rfl⟩
end
/-! ### tracked -/
def SetSO (P : Program) (w : World) (a : Addr) (zs : List Str) : HO := .ext fun h => TSet P w h a zs
theorem setSO_new {w : World} {P : Program} {H : Hp} {h : Heap} {a : Addr} {zs : List Str} (R : TSet P w h a zs) : ObjOk P w H h a (SetSO P w a zs) := by
  have ⟨o, _, _, _, ho, _⟩ := R
  exact ⟨R, ⟨o, ho⟩, fun h1 h2 p k => TSet.at p k⟩
section
variable {X : Cx}
theorem setSO_get {pins : List (Addr × Obj)} {σ : L2.St} {H : Hp} {s : Shared} {a : Addr} {zs : List Str} (I : Inv X pins σ H s) (ha : H a = some (SetSO X.prog X.w a zs)) : TSet X.prog X.w s.heap a zs := (I.hok a _ ha).1
theorem add_ok {pins : List (Addr × Obj)} {σ : L2.St} {H : Hp} {s : Shared} {E : Value → Shared → Prop} {D : Addr} {zs : List Str} {z : Str} {tk : Tok} {Q : Value → Shared → Prop} (I : Inv X pins σ H s) (hD : H D = some (SetSO X.prog X.w D zs)) (room : zs.length + 1 < scanBound)
    (h : ∀ s', Inv X pins σ (upd H D (SetSO X.prog X.w D (more zs z))) s' → Q .none s') : wpAny (model X.prog X.w) X.A (call (.builtin "set.add") [.ref D, .str z tk]) Q E s := by
  refine add_run (setSO_get I hD) room fun h' sb new => ?_
  have he : ∃ u, h'.get? D = some u := by
    have ⟨o, _, _, _, ho, _⟩ := new
    exact ⟨o, ho⟩
  exact h _ (I.write (e := D) (t' := s.toks + 1) (by rw [hD]; trivial) (.inl rfl) (fun b u hb hu => (sb.2 b hb).trans hu) he (setSO_new new))
end
end SX

set_option maxHeartbeats 2000000
/-! {text for .. in ..} and sorted of a set of texts. -/
namespace SX
open PySem PySem.Spec PyProof.Rows L2 PpSet PySem.W
section
variable {X : Cx}
/-- {elt for target in iter if ..}, elt a text: D the new set -/
def tScS (P : Program) (w : World) (wi : TI) (g : TG) (tt : TT) (te : TE) (vs : List Nat) : TE := fun σ H Q => wi σ H fun J H1 => ∀ D, H1 D = none → ∃ W : Nat → Nat → Hp → Prop, (∃ m, W 0 m (upd H1 D (SetSO P w D []))) ∧ ∀ i m H, W i m H →
  (J.stop i H ∧ Q (.ref D) H) ∨ (J.go i H ∧ ∃ Nx : Hp → Prop, (∀ H', Nx H' → ∃ m', m' < m ∧ W (i + 1) m' H') ∧ ∀ x H', J.yld i H x H' → g x (wipe σ vs) H' fun σ2 H2 => wipe σ2 vs = wipe σ vs ∧ tt σ2 H2 fun b H3 =>
    if b = true then te σ2 H3 fun y H4 => ∃ (z : Str) (zs : List Str), y = .str z ∧ H4 D = some (SetSO P w D zs) ∧ zs.length + 1 < scanBound ∧ Nx (upd H4 D (SetSO P w D (more zs z))) else Nx H3)
theorem pe_scS {elt tg iter : Expr} {ifs : List Expr} {scope : Scope} {own : List (PySem.Str × Nat)} {pos : Pos} {wi : TI} {g : TG} {tt : TT} {te : TE} (hc : X.calm = true) (hN : X.N.Nodup) (hi : PI X tg iter wi) (ok : BlkOk X.N X.env.scope scope own)
    (hg : ∀ (s : Shared) (H : Hp) (C : Addr) (cl : List (PySem.Str × Addr)) (fp : List Addr), PG (X.blk s H scope (compEnvC scope cl C X.env) fp) tg g) (ht : ∀ (s : Shared) (H : Hp) (C : Addr) (cl : List (PySem.Str × Addr)) (fp : List Addr), PTs (X.blk s H scope (compEnvC scope cl C X.env) fp) ifs tt)
    (he : ∀ (s : Shared) (H : Hp) (C : Addr) (cl : List (PySem.Str × Addr)) (fp : List Addr), PE (X.blk s H scope (compEnvC scope cl C X.env) fp) elt te) (hs : ∀ x, foldedSetIterable iter X.env x = pure x := by intro _; rfl) :
    PE X (.SetComp elt [⟨tg, iter, ifs, 0⟩] scope pos) (tScS X.prog X.w wi g tt te (own.map (·.2))) := by
  refine ⟨fun pins s σ H Q I h => ?_⟩
  rw [eval_SetComp]
  have hfree : ∀ y ∈ scope.names, y.2 = .free → ∃ c, X.env.cells.lookup y.1 = some c := fun y hy e => (ok.free y hy e).elim (fun k => I.ok.has _ (.inl k)) fun k => I.ok.has _ (.inr k)
  refine wpAny_comprehension_free (use := none) rfl hs (closure_ok hfree) ok.kind (fun y hy e => by rw [ok.uniq y hy, e]) (thn (hi.run pins s σ H _ I h) fun xv s1 hx => thn hx fun itv s2 h2 => ?_)
  obtain ⟨it, fp, tn, J, H2, e, I2, T, st2, f2, q⟩ := h2
  subst e
  refine newSet_ok (newEnv_comp ?_)
  generalize hD : s2.heap.objs.size = D
  obtain ⟨W, ⟨m0, w0⟩, turn⟩ := q D (I2.hok.fresh (Nat.le_of_eq hD))
  -- the new set
  generalize hs3 : ({ s2 with heap := s2.heap.push { cls := .type "set", dict := none, data := .set #[] 0 (.fresh 0 0 (!X.w.params.followText "set-order")) } } : Shared) = s3
  have h3 : s3.heap = s2.heap.push { cls := .type "set", dict := none, data := .set #[] 0 (.fresh 0 0 (!X.w.params.followText "set-order")) } := by rw [← hs3]
  have I3 : Inv X pins σ (upd H2 D (SetSO X.prog X.w D [])) s3 := by
    rw [← hs3]
    refine I2.laid (t' := s2.toks) (fun b o e => Heap.get?_push_of_some _ e) (Nat.le_of_eq hD) ?_
    rw [← hD]
    exact setSO_new (fresh_set X.prog X.w)
  have lt2 : ∀ b ∈ fp, b < s2.heap.objs.size := fun b hb => by
    obtain ⟨o, e, _⟩ := T.obj _ _ st2 b hb
    exact Heap.lt_size e
  have f3 : ∀ b ∈ fp, FpOk X pins (upd H2 D (SetSO X.prog X.w D [])) b ∧ b < s3.heap.objs.size := fun b hb => by
    refine ⟨⟨?_, (f2 b hb).2⟩, by rw [h3, Heap.size_push]; exact Nat.lt_succ_of_lt (lt2 b hb)⟩
    rw [upd_ne (by rw [← hD]; exact Nat.ne_of_lt (lt2 b hb))]
    exact (f2 b hb).1
  have st3 : tn 0 s3.heap := T.keep _ _ _ st2 fun b _ o e => by rw [h3]; exact Heap.get?_push_of_some _ e
  have I4 := block_start I3 ok hN f3
  generalize hce : compEnvC scope (cellsFrom (s3.heap.objs.size + 1) scope.names (cloFrom X.env.cells scope.names [])) s3.heap.objs.size X.env = ce at I4
  have cL : ce.locals = s3.heap.objs.size := by subst hce; rfl
  generalize hH3 : upd H2 D (SetSO X.prog X.w D []) = H3 at I3 I4 w0 f3
  have pg : PG (X.blk s3 H3 scope ce fp) tg g := hce ▸ hg s3 H3 _ _ fp
  have pt : PTs (X.blk s3 H3 scope ce fp) ifs tt := hce ▸ ht s3 H3 _ _ fp
  have pe : PE (X.blk s3 H3 scope ce fp) elt te := hce ▸ he s3 H3 _ _ fp
  show codeAny _ _ (.compStart (.SetComp elt [⟨tg, iter, ifs, 0⟩] scope pos) 0 (.ref it) (.ref D) (compEnvC scope (cellsFrom (s3.heap.objs.size + 1) scope.names (cloFrom X.env.cells scope.names [])) s3.heap.objs.size X.env)) _ { s3 with heap := pushCells (s3.heap.push { cls := .type "dict", data := .dict #[] }) scope.names }
  rw [hce]
  generalize hs4 : ({ s3 with heap := pushCells (s3.heap.push { cls := .type "dict", data := .dict #[] }) scope.names } : Shared) = s4 at I4 ⊢
  have st4 : tn 0 s4.heap := T.keep _ _ _ st3 fun b _ o e => by rw [← hs4]; exact pushCells_keeps _ _ _ _ (Heap.get?_push_of_some _ e)
  have stat : ∀ {σ' : L2.St} {H' : Hp} {s' : Shared}, Inv (X.blk s3 H3 scope ce fp) [] σ' H' s' → (∀ b ∈ fp, H' b = none) → ∀ b ∈ fp, FpOk (X.blk s3 H3 scope ce fp) [] H' b := fun {σ' H' s'} I' hn b hb =>
    ⟨hn b hb, (I'.ok.exf b hb).1, I'.ok.exfs b hb, .inl hb, fun x c e => (I'.ok.exf b hb).2 x c e, fun p hp => absurd (show p ∈ ([] : List (Addr × Obj)) ++ [] from hp) (by simp)⟩
  refine codeAny_compStart_set ?loop (T.self X.A 0 _ _ _ st4 ?loop)
  refine compLoopS_any (fun n s' => ∃ i H', Inv (X.blk s3 H3 scope ce fp) [] (wipe σ (own.map (·.2))) H' s' ∧ tn i s'.heap ∧ (∀ b ∈ fp, H' b = none) ∧ W i n H') ?_ m0 ⟨0, H3, I4, st4, fun b hb => (f3 b hb).1.1, w0⟩
  rintro n s5 ⟨i, H5, I5, st5, n5, w5⟩
  rcases turn i n H5 w5 with ⟨stop, qq⟩ | ⟨go, Nx, hNx, step⟩
  · refine thnF (T.done (X.blk s3 H3 scope ce fp) rfl rfl rfl hc i [] s5 _ H5 (fun _ _ => False) I5 (stat I5 n5) st5 stop) fun r s6 ⟨hr, I6⟩ => ?_
    subst hr
    have I7 : Inv X pins σ H5 s6 := I3.call' (ch := fp) I6.os I6.base I6.hok I6.bare fun b hb => ⟨(f3 b hb).1.2.2.2.1, (f3 b hb).1.2.1, (f3 b hb).1.2.2.2.2.1, (f3 b hb).1.2.2.2.2.2⟩
    have nC : H5 s3.heap.objs.size = none := by
      have z : H5 ce.locals = none := I6.free
      rwa [cL] at z
    obtain ⟨m, hn, _⟩ := I6.loc
    have hn : s6.heap.Ns ce.locals m := hn
    rw [cL] at hn
    obtain ⟨a0, a1, a2, a3, a4, a5⟩ := I3.fpOk (Nat.le_refl _) nC
    exact ⟨m, hn, fun h'' sb => ⟨.ref D, H5, I7.turned (t' := s6.toks) (fun b o hb e => (sb.2 b hb).trans e) a0 a1 a3 a4 a5, rfl, qq⟩⟩
  · refine thnF (T.item (X.blk s3 H3 scope ce fp) rfl rfl rfl hc i [] s5 _ H5 (fun _ _ => False) I5 (stat I5 n5) st5 go) fun r s6 ⟨u, hr, h6⟩ => ?_
    subst hr
    refine thnF h6 fun _ s7 ⟨x, H7, I7, r7, y7, st7, n7⟩ => ?_
    refine thnF (pg.run _ s7 _ H7 x u _ (I7.pinned (stat I7 n7) (T.obj _ _ st7)) r7 (step x H7 y7)) fun _ s8 ⟨σ8, H8, I8, hw8, q8⟩ => ?_
    refine thnF (pt.run _ s8 σ8 H8 _ I8 q8) fun b s9 ⟨H9, I9, q9⟩ => ?_
    have fin : ∀ {s' : Shared} {H' : Hp}, Inv (X.blk s3 H3 scope ce fp) ([] ++ pinsAt fp s7.heap) σ8 H' s' → Nx H' → ∃ m, m < n ∧ ∃ i H', Inv (X.blk s3 H3 scope ce fp) [] (wipe σ (own.map (·.2))) H' s' ∧ tn i s'.heap ∧ (∀ b ∈ fp, H' b = none) ∧ W i m H' := fun {s' H'} I' nx => by
      obtain ⟨m', hm, w'⟩ := hNx H' nx
      have pin' : ∀ b ∈ fp, ∀ o, s7.heap.get? b = some o → s'.heap.get? b = some o ∧ H' b = none := fun b hb o e =>
        let z := I'.pin (b, o) (List.mem_append_right _ (List.mem_append_right _ (mem_pinsAt hb e)))
        ⟨z.1, z.2.1⟩
      have hl : (wipe σ (own.map (·.2))).length = σ8.length := by rw [← hw8, wipe_length]
      refine ⟨m', hm, i + 1, H', (I'.unpinned (pins := [])).weak hl (fun j v e => ?_), T.keep _ _ _ st7 fun b hb o e => (pin' b hb o e).1, fun b hb => ?_, w'⟩
      · rw [← hw8] at e
        exact (wipe_some e).1
      · obtain ⟨o, e, _⟩ := T.obj _ _ st7 b hb
        exact (pin' b hb o e).2
    cases b with
    | false =>
      simp only [Bool.false_eq_true, if_false] at q9 ⊢
      exact fin I9 q9
    | true =>
      simp only [if_true] at q9 ⊢
      refine thnF (pe.run _ s9 σ8 H9 _ I9 q9) fun v s10 ⟨yv, H10, I10, r10, z, zs, ey, hD10, room, nx⟩ => ?_
      subst ey
      obtain ⟨tk, rfl⟩ := r10
      exact add_ok (X := X.blk s3 H3 scope ce fp) I10 hD10 room fun s11 I11 => fin I11 nx
/-- over a walk -/
theorem sc_it {P : Program} {w : World} {J : It} {n : Nat} {G : Hp → Prop} {Y : Nat → Hp → V → Hp → Prop} (wk : Walk J n G Y) {g : TG} {tt : TT} {te : TE} {vs : List Nat} {σ : L2.St} {H1 : Hp} {D : Addr} {Qd : Hp → Prop} (Pv : Nat → Hp → Prop) (h0 : Pv 0 (upd H1 D (SetSO P w D []))) (hG : ∀ i H, i ≤ n → Pv i H → G H)
    (hs : ∀ i x H H', i < n → Pv i H → Y i H x H' → g x (wipe σ vs) H' fun σ2 H2 => wipe σ2 vs = wipe σ vs ∧ tt σ2 H2 fun b H3 =>
      if b = true then te σ2 H3 fun y H4 => ∃ (z : Str) (zs : List Str), y = .str z ∧ H4 D = some (SetSO P w D zs) ∧ zs.length + 1 < scanBound ∧ Pv (i + 1) (upd H4 D (SetSO P w D (more zs z))) else Pv (i + 1) H3) (hd : ∀ H, Pv n H → Qd H) :
    ∃ W : Nat → Nat → Hp → Prop, (∃ m, W 0 m (upd H1 D (SetSO P w D []))) ∧ ∀ i m H, W i m H →
      (J.stop i H ∧ Qd H) ∨ (J.go i H ∧ ∃ Nx : Hp → Prop, (∀ H', Nx H' → ∃ m', m' < m ∧ W (i + 1) m' H') ∧ ∀ x H', J.yld i H x H' → g x (wipe σ vs) H' fun σ2 H2 => wipe σ2 vs = wipe σ vs ∧ tt σ2 H2 fun b H3 =>
        if b = true then te σ2 H3 fun y H4 => ∃ (z : Str) (zs : List Str), y = .str z ∧ H4 D = some (SetSO P w D zs) ∧ zs.length + 1 < scanBound ∧ Nx (upd H4 D (SetSO P w D (more zs z))) else Nx H3) := by
  refine ⟨fun i m H => m = n - i ∧ i ≤ n ∧ Pv i H, ⟨n, by simp, Nat.zero_le _, h0⟩, ?_⟩
  rintro i m H ⟨rfl, hi, p⟩
  have q := hG i H hi p
  by_cases hlt : i < n
  · exact .inr ⟨wk.goes i H hlt q, Pv (i + 1), fun H' p' => ⟨n - (i + 1), by omega, rfl, hlt, p'⟩, fun x H' y => hs i x H H' hlt p (wk.yields i H x H' hlt q y)⟩
  · have e : i = n := by omega
    subst e
    exact .inl ⟨wk.stops H q, hd H p⟩
/-- sorted of a set of texts: its texts, each once, in some order -/
def rSortS (P : Program) (w : World) : List V → Hp → VK → Prop := fun vs H Q => ∃ (a : Addr) (zs : List Str), vs = [V.ref a] ∧ H a = some (SetSO P w a zs) ∧ ∀ (ys : List Str) (p : Addr), ys.Perm zs → H p = none → Q (.ref p) (upd H p (.lst (ys.map V.str)))
theorem cr_sortS (hc : X.calm = true) (hu : X.A.units + 64 < cLine) : CallR X (.builtin "sorted") (rSortS X.prog X.w) := by
  intro pins s σ H vs us Q I r h
  obtain ⟨a, zs, rfl, ha, q⟩ := h
  obtain ⟨o, es, ep, t, ho, hex, hd, g, pm, nd, hb, hf, hr, hl⟩ := setSO_get I ha
  rw [Vals.ref1 r]
  refine Calls.call_function_entry kind_sorted plain_sorted entry_sorted (args_sorted1 _) ?_
  unfold Builtin.«sorted»
  refine wpAny_bind (m := checkCount "sorted" 1 1 _) (wpAny_pure ?_)
  refine wpAny_bind (collect_set (A := X.A.in1) (I.ok.hd hc) ⟨o, ho, hex.1, hd⟩ hf hb hr hl fun s1 us k1 hz g1 o1 pe => ?_)
  -- the texts as they come
  have tx : ∀ {us : List Value}, (∀ v ∈ us, ∃ z t, v = Value.str z t) → ∃ ys : List Str, Vals (ys.map V.str) us ∧ us.map (fun v => txtOf (0, v)) = ys := by
    intro us
    induction us with
    | nil => exact fun _ => ⟨[], .nil, rfl⟩
    | cons v us ih =>
      intro h
      obtain ⟨z, t, rfl⟩ := h v List.mem_cons_self
      obtain ⟨ys, h1, h2⟩ := ih fun u hu => h u (List.mem_cons_of_mem _ hu)
      exact ⟨z :: ys, .cons ⟨t, rfl⟩ h1, by rw [List.map_cons, h2]; rfl⟩
  obtain ⟨ys, r1, e1⟩ := tx (us := us) fun v hv => by
    obtain ⟨e, he, rfl⟩ := List.mem_map.mp (pe.mem_iff.mp hv)
    obtain ⟨z, t, h1, _⟩ := g e he
    exact ⟨z, t, h1⟩
  have p1 : ys.Perm zs := by
    rw [← e1]
    refine (pe.map _).trans ?_
    rw [List.map_map]
    exact pm
  have lz : us.length ≤ sizeLine := by
    rw [pe.length_eq, List.length_map, Array.length_toList]
    exact fits_of_scanBound hb
  refine wpAny_bind (wpAny_newList ?_ lz)
  have hoL : (s1.heap.push (seqObj "list" us.toArray 0)).get? s1.heap.objs.size = some (seqObj "list" us.toArray 0) := Heap.get?_push_size _ rfl
  have ev : ∀ {ys : List Str} {us : List Value}, Vals (ys.map V.str) us → EachIs (fun (v : Value) (z : Str) => RelV (.str z) v) us ys := by
    intro ys
    induction ys with
    | nil => intro us r; cases r; exact .nil
    | cons z ys ih => intro us r; cases r with | cons r t => exact .cons r (ih t)
  have ve : ∀ {us : List Value} {ys : List Str}, EachIs (fun (v : Value) (z : Str) => RelV (.str z) v) us ys → Vals (ys.map V.str) us := by
    intro us ys e
    induction e with
    | nil => exact .nil
    | cons r t ih => exact .cons r ih
  refine wpAny_bind (wpAny_holding (list_sort_data (s := { s1 with heap := s1.heap.push (seqObj "list" us.toArray 0) }) (enc := PyData.str) hoL (ev r1) ((ev r1).mono fun v z r => ?_) ?_ ?_ (by rw [← (ev r1).length]; exact lz) (fun z hz => ?_) fun out lo eo => ?_))
  · obtain ⟨t, rfl⟩ := r
    exact ⟨[], Reads.str .., fun h => nomatch h⟩
  · intro d hd d' hd'
    obtain ⟨z, _, rfl⟩ := List.mem_map.mp hd
    obtain ⟨z', _, rfl⟩ := List.mem_map.mp hd'
    rfl
  · refine .inr fun d hd => ?_
    obtain ⟨z, _, rfl⟩ := List.mem_map.mp hd
    exact ⟨(fun h => by cases h), (fun xs h => by cases h)⟩
  · show X.A.units + 1 + 1 + 0 < cLine
    omega
  obtain ⟨c, at1⟩ := sortedHeap_at (vs := us) (out := out.toArray) hoL
  have keep : ∀ b u, s.heap.get? b = some u → (sortedHeap (s1.heap.push (seqObj "list" us.toArray 0)) s1.heap.objs.size us out.toArray).get? b = some u := fun b u e => by
    have q := k1 b u e
    have hlt := Heap.lt_size q
    rw [sortedHeap_old (Nat.ne_of_lt hlt) (by rw [size_push']; exact Nat.lt_succ_of_lt hlt)]
    exact Heap.get?_push_of_some _ q
  have pp : (ys.mergeSort (dataLe false PyData.str)).Perm zs := (List.mergeSort_perm _ _).trans p1
  have hn : H s1.heap.objs.size = none := I.hok.fresh hz
  have hlen : ((ys.mergeSort (dataLe false PyData.str)).map V.str).length ≤ sizeLine := by
    rw [List.length_map, List.length_mergeSort, ← (ev r1).length]
    exact lz
  have J : Inv X pins σ (upd H s1.heap.objs.size (.lst ((ys.mergeSort (dataLe false PyData.str)).map V.str))) { s with heap := sortedHeap (s1.heap.push (seqObj "list" us.toArray 0)) s1.heap.objs.size us out.toArray, gens := s1.gens, drawn := s1.drawn, toks := s1.toks } :=
    I.call (ch := []) (Un.laid keep hz hn) (I.hok.laid keep hz ⟨hlen, out, c, ve eo, at1⟩) (by rw [g1]; exact I.bare) (fun _ z => nomatch z)
  refine wpAny_pure ⟨_, rfl, ?_⟩
  have e : ({ s1 with heap := sortedHeap (s1.heap.push (seqObj "list" us.toArray 0)) s1.heap.objs.size us out.toArray } : Shared) = { s with heap := sortedHeap (s1.heap.push (seqObj "list" us.toArray 0)) s1.heap.objs.size us out.toArray, gens := s1.gens, drawn := s1.drawn, toks := s1.toks } := by
    cases s1
    cases s
    cases o1
    rfl
  show ∃ x H', Inv X pins σ H' ({ s1 with heap := sortedHeap (s1.heap.push (seqObj "list" us.toArray 0)) s1.heap.objs.size us out.toArray } : Shared) ∧ _
  rw [e]
  exact ⟨.ref _, _, J, rfl, q _ _ pp hn⟩
end
end SX

/-! whom one may take from: what is told, as lists -/
namespace My
open PySem PySem.Spec PyProof.Rows L2 GX GxR
def dueOf : List (Str × List Int) → Str → List Int
  | [], _ => []
  | kv :: kvs, g => if kv.1 = g then kv.2 else dueOf kvs g
theorem dueOf_eq {g : Str} {dn : List Int} : ∀ {kvs : List (Str × List Int)}, (kvs.map (·.1)).Nodup → (g, dn) ∈ kvs → dueOf kvs g = dn
  | [], _, h => nomatch h
  | kv :: kvs, nd, h => by
    rw [List.map_cons, List.nodup_cons] at nd
    unfold dueOf
    rcases List.mem_cons.mp h with z | z
    · rw [← z, if_pos rfl]
    · rw [if_neg fun e => nd.1 (List.mem_map.mpr ⟨_, z, e.symm⟩)]
      exact dueOf_eq nd.2 z
def ofG (Rs : List (Gang × Int)) (g : Str) : List (Gang × Int) := Rs.filter fun R => decide (R.1.guild = g)
def lentOfG (kvs : List (Str × List Int)) (Rs : List (Gang × Int)) (g : Str) : List Str := (partRs (dueOf kvs g) (ofG Rs g)).2.1.map (·.name)
def lentIn (kvs : List (Str × List Int)) (Rs : List (Gang × Int)) (z : Str) : Bool := Rs.any fun R => decide (z ∈ lentOfG kvs Rs R.1.guild)
def gIn (a b c : Bool) : Option Str := if (a && (b || c)) = true then some "rank" else none
def gBey (a b c : Bool) : Option Str := if (b && c) = true then some "share" else if (b && a) = true then some "rank" else none
def oV : Option Str → V
  | some z => .str z
  | none => .non
/-- the ground for the other gang O -/
def groundOf (kvs : List (Str × List Int)) (Rs : List (Gang × Int)) (G O : Gang) : Option Str :=
  if O.guild = G.guild then gIn (decide (O.rank < G.rank)) (lentIn kvs Rs O.name) (ownB (dueOf kvs G.guild) (ofG Rs G.guild) G)
  else gBey (decide (O.rank < G.rank)) (lentIn kvs Rs O.name) (owedB (dueOf kvs G.guild) (ofG Rs G.guild) G)
def pairOf (kvs : List (Str × List Int)) (Rs : List (Gang × Int)) (ns : List Str) (G O : Gang) : List (Str × Str) :=
  match groundOf kvs Rs G O with
  | some z => if O.name ∈ ns then [(O.name, z)] else []
  | none => []
def mayL (kvs : List (Str × List Int)) (Rs : List (Gang × Int)) (ns : List Str) (G : Gang) : List (Str × Str) := ((ord Rs).map (·.1)).reverse.flatMap (pairOf kvs Rs ns G)
def TelAt (H : Hp) (t : Addr) (p : Str × Str) : Prop := H t = some (.tup [.str p.1, .str p.2])
theorem TelAt.kt {H H' : Hp} {t : Addr} {p : Str × Str} (k : KTu H H') (h : TelAt H t p) : TelAt H' t p := k _ _ h
/-- dues and rows as they are handed in -/
structure DR (K : PySem.W.Frag) (H : Hp) (d a : Addr) (wr : Nat) (kvs : List (Str × List Int)) (as : List Addr) (Rs : List (Gang × Int)) : Prop where
  dues : ∃ ps : List (Key × V), Rd H d (.dK ps) ∧ Paired (DueAt H) ps kvs
  keys : (kvs.map (·.1)).Nodup
  len : ∀ kv ∈ kvs, kv.2.length = wr
  w1 : 1 ≤ wr
  w8 : wr ≤ 8
  rows : SqL K H a (as.map V.ref)
  prs : Paired (RowAt H) as Rs
  good : Good2 Rs
  few : Rs.length ≤ 60
  want : ∀ R ∈ Rs, R.1.want.length = wr
  guild : ∀ R ∈ Rs, R.1.guild ∈ kvs.map (·.1)
theorem DR.fw {K : PySem.W.Frag} {Ts : List Addr} {H H' : Hp} {d a : Addr} {wr : Nat} {kvs : List (Str × List Int)} {as : List Addr} {Rs : List (Gang × Int)} (t : Tabs Ts H) (f : Fw Ts H H') (h : DR K H d a wr kvs as Rs) : DR K H' d a wr kvs as Rs := by
  obtain ⟨ps, h1, h2⟩ := h.dues
  refine ⟨⟨ps, ?_, h2.mono fun _ _ x => x.kt (f.kt t)⟩, h.keys, h.len, h.w1, h.w8, f.seqL t h.rows, h.prs.mono fun _ _ x => x.kt (f.kt t), h.good, h.few, h.want, h.guild⟩
  rcases h1 with e | ⟨od, e⟩
  · exact .inl (f.obj t e fun pp z => by cases z)
  · exact .inr ⟨od, f.obj t e fun pp z => by cases z⟩
theorem DR.get {K : PySem.W.Frag} {H : Hp} {d a : Addr} {wr : Nat} {kvs : List (Str × List Int)} {as : List Addr} {Rs : List (Gang × Int)} (h : DR K H d a wr kvs as Rs) {g : Str} (hg : g ∈ kvs.map (·.1)) :
    ∃ av, DGet H d (.str g) (some (.ref av)) ∧ H av = some (.tup ((dueOf kvs g).map V.int)) ∧ (dueOf kvs g).length = wr := by
  obtain ⟨ps, h1, h2⟩ := h.dues
  obtain ⟨av, dn, vv, mkv, ea⟩ := valV_due h2 h.keys hg
  have e := dueOf_eq h.keys mkv
  refine ⟨av, dgetR h1 vv, ?_, ?_⟩
  · rw [e]
    exact ea
  · rw [e]
    exact h.len _ mkv
def spGOf : Sp := fun vs H Q _ => ∃ (g : Addr) (G : Gang), vs = [.ref g] ∧ GangAt H g G ∧ Q (.str G.guild) H
def spGr (f : Bool → Bool → Bool → Option Str) : Sp := fun vs H Q _ => ∃ a b c : Bool, vs = [.bl a, .bl b, .bl c] ∧ Q (oV (f a b c)) H
def spLent (K : PySem.W.Frag) (Ts : List Addr) : Sp := fun vs H Q _ => ∃ (d a : Addr) (wr : Nat) (kvs : List (Str × List Int)) (as : List Addr) (Rs : List (Gang × Int)), vs = [.ref d, .ref a] ∧ DR K H d a wr kvs as Rs ∧ Tabs Ts H ∧
  ∀ p H' (qs : List (Key × V)), Fw Ts H H' → H p = none → H' p = some (.dK qs) → (∀ z : Str, (valV qs (Sum.inr z)).isSome = lentIn kvs Rs z) → Q (.ref p) H'
def spMay (K : PySem.W.Frag) (Ts : List Addr) : Sp := fun vs H Q _ => ∃ (d a n g : Addr) (wr : Nat) (kvs : List (Str × List Int)) (as : List Addr) (Rs : List (Gang × Int)) (ns : List Str) (G : Gang), vs = [.ref d, .ref a, .ref n, .ref g] ∧ DR K H d a wr kvs as Rs ∧ SqL K H n (ns.map V.str) ∧ GangAt H g G ∧ Fit (G, 0) ∧ G.want.length = wr ∧ G.guild ∈ kvs.map (·.1) ∧
  (∀ R ∈ Rs, R.1.name ≠ G.name) ∧ Tabs Ts H ∧ ∀ p H' ts, Fw Ts H H' → H p = none → H' p = some (.lst (ts.map V.ref)) → Paired (TelAt H') ts (mayL kvs Rs ns G) → Q (.ref p) H'
end My

/-! whom one may take from, by the laws' own reckoning -/
namespace My
open PySem PySem.Spec PyProof.Rows L2 GX GxR
def takenOf (kvs : List (Str × List Int)) (Rs : List (Gang × Int)) (G O : Gang) : List (Str × Str) :=
  match groundOf kvs Rs G O with
  | some z => [(O.name, z)]
  | none => []
def takenL (kvs : List (Str × List Int)) (Rs : List (Gang × Int)) (G : Gang) : List (Str × Str) := ((ord Rs).map (·.1)).reverse.flatMap (takenOf kvs Rs G)
theorem filter_flatMap {α β : Type} (p : β → Bool) (f : α → List β) : ∀ xs : List α, (xs.flatMap f).filter p = xs.flatMap fun x => (f x).filter p
  | [] => rfl
  | x :: xs => by
    rw [List.flatMap_cons, List.flatMap_cons, List.filter_append, filter_flatMap p f xs]
theorem may_taken (kvs : List (Str × List Int)) (Rs : List (Gang × Int)) (ns : List Str) (G : Gang) : mayL kvs Rs ns G = (takenL kvs Rs G).filter fun p => decide (p.1 ∈ ns) := by
  unfold mayL takenL
  rw [filter_flatMap]
  congr 1
  funext O
  unfold pairOf takenOf
  cases groundOf kvs Rs G O with
  | none => rfl
  | some z =>
    by_cases h : O.name ∈ ns
    · simp [h]
    · simp [h]
theorem mem_takenL {kvs : List (Str × List Int)} {Rs : List (Gang × Int)} {G : Gang} {p : Str × Str} (h : p ∈ takenL kvs Rs G) : ∃ R ∈ Rs, R.1.name = p.1 ∧ groundOf kvs Rs G R.1 = some p.2 := by
  obtain ⟨O, hO, hp⟩ := List.mem_flatMap.mp h
  obtain ⟨R, hR, rfl⟩ := List.mem_map.mp (List.mem_reverse.mp hO)
  unfold takenOf at hp
  split at hp
  · have := List.mem_singleton.mp hp
    subst this
    exact ⟨R, (ord_perm Rs).mem_iff.mp hR, rfl, by assumption⟩
  · exact (nomatch hp)
theorem may_all {kvs : List (Str × List Int)} {Rs : List (Gang × Int)} {ns : List Str} {G : Gang} (h : ∀ R ∈ Rs, R.1.name ∈ ns) : mayL kvs Rs ns G = takenL kvs Rs G := by
  rw [may_taken, List.filter_eq_self.mpr fun p hp => ?_]
  obtain ⟨R, hR, e, _⟩ := mem_takenL hp
  rw [← e]
  exact decide_eq_true (h R hR)
/-- all names that are lent, guild by guild -/
def lentAll (kvs : List (Str × List Int)) (Rs : List (Gang × Int)) (ks : List (Str × List Int)) : List Str := ks.flatMap fun kv => lentOfG kvs Rs kv.1
theorem lentG_row {kvs : List (Str × List Int)} {Rs : List (Gang × Int)} {g z : Str} (h : z ∈ lentOfG kvs Rs g) : ∃ R ∈ Rs, R.1.guild = g ∧ R.1.name = z := by
  obtain ⟨F, hF, e⟩ := List.mem_map.mp h
  obtain ⟨R, hR, rfl⟩ := partRs_mem (.inr hF)
  obtain ⟨h1, h2⟩ := List.mem_filter.mp hR
  exact ⟨R, h1, of_decide_eq_true h2, e⟩
theorem lentAll_mem {kvs : List (Str × List Int)} {Rs : List (Gang × Int)} (hg : ∀ R ∈ Rs, R.1.guild ∈ kvs.map (·.1)) (z : Str) : decide (z ∈ lentAll kvs Rs kvs) = lentIn kvs Rs z := by
  unfold lentAll lentIn
  cases e : Rs.any fun R => decide (z ∈ lentOfG kvs Rs R.1.guild) with
  | true =>
    obtain ⟨R, hR, h⟩ := List.any_eq_true.mp e
    obtain ⟨kv, hkv, ek⟩ := List.mem_map.mp (hg R hR)
    refine decide_eq_true (List.mem_flatMap.mpr ⟨kv, hkv, ?_⟩)
    rw [ek]
    exact of_decide_eq_true h
  | false =>
    refine decide_eq_false fun q => ?_
    obtain ⟨kv, hkv, h⟩ := List.mem_flatMap.mp q
    obtain ⟨R, hR, h1, h2⟩ := lentG_row h
    have := List.any_eq_false.mp e R hR
    rw [h1] at this
    exact this (decide_eq_true h)
theorem lentG_len (kvs : List (Str × List Int)) (Rs : List (Gang × Int)) (g : Str) : (lentOfG kvs Rs g).length ≤ Rs.length := by
  unfold lentOfG
  rw [List.length_map]
  have h1 := partRs_len (dueOf kvs g) (ofG Rs g)
  have h2 : (ofG Rs g).length ≤ Rs.length := List.length_filter_le _ _
  omega
theorem lentAll_len (kvs : List (Str × List Int)) (Rs : List (Gang × Int)) : ∀ ks : List (Str × List Int), (lentAll kvs Rs ks).length ≤ ks.length * Rs.length
  | [] => by simp [lentAll]
  | kv :: ks => by
    have ih := lentAll_len kvs Rs ks
    have h := lentG_len kvs Rs kv.1
    unfold lentAll at ih ⊢
    rw [List.flatMap_cons, List.length_append, List.length_cons, Nat.succ_mul]
    omega
/-- locked or not, what is read of dues and rows stands -/
theorem DR.same {K : PySem.W.Frag} {H H' : Hp} {d a : Addr} {wr : Nat} {kvs : List (Str × List Int)} {as : List Addr} {Rs : List (Gang × Int)} (s : Same H H') (h : DR K H d a wr kvs as Rs) : DR K H' d a wr kvs as Rs := by
  obtain ⟨ps, h1, h2⟩ := h.dues
  refine ⟨⟨ps, ?_, h2.mono fun _ _ x => x.kt (Same.kt s)⟩, h.keys, h.len, h.w1, h.w8, s.seq h.rows, h.prs.mono fun _ _ x => x.same s, h.good, h.few, h.want, h.guild⟩
  rcases h1 with e | ⟨od, e⟩
  · exact .inl (s _ _ e)
  · exact .inr ⟨od, s _ _ e⟩
def spTaken (K : PySem.W.Frag) : Sp := fun vs H Q _ => ∃ (d a g : Addr) (wr : Nat) (kvs : List (Str × List Int)) (as : List Addr) (Rs : List (Gang × Int)) (G : Gang), vs = [.ref d, .ref a, .ref g] ∧ DR K H d a wr kvs as Rs ∧ (∃ ps : List (Key × V), H d = some (.dK ps)) ∧ H a = some (.lst (as.map V.ref)) ∧ kvs.length ≤ 12 ∧ GangAt H g G ∧ Fit (G, 0) ∧ G.want.length = wr ∧ G.guild ∈ kvs.map (·.1) ∧
  ∀ p H' ts, Same H H' → H p = none → H' p = some (.lst (ts.map V.ref)) → Paired (TelAt H') ts (takenL kvs Rs G) → Q (.ref p) H'
end My

namespace My
open PySem PySem.Spec PyProof.Rows L2 GX GxR
abbrev s_scTaken : Stmt := topS 35
abbrev n_scTaken : List Str := ["_law_dues", "_law_rows", "_law_gang_here", "_law_mine", "_law_is_owed", "_law_above", "_law_is_own", "_law_lent", "_law_guild_here", "_law_found", "_law_other", "_law_number", "_law_row"]
theorem scTaken : FnScope n_scTaken ["_law_dues", "_law_rows", "_law_gang_here"] (defScope s_scTaken) := ⟨rfl, rfl, rfl, by decide +kernel, rfl, by decide +kernel, by decide +kernel⟩
section
variable {P : Program} {w : World} {K : PySem.W.Frag} {mg : Str → Option Value} {base : Heap}
theorem ok_taken {f fG fF fL fO : Addr} {fd fdG fdF fdL fdO : FuncData} {k : Nat} (F : Fun K "_law_taken" "_law_taken" s_scTaken f fd) (X : Txt mg) (mRev : mg "reversed" = none)
    (GG : FnOk P w K mg base CX0 k fG fdG ["_law_rows", "_law_guild_here"] (spLGuild K)) (mG : mg "_law_guild" = some (.ref fG)) (kG : PySem.W.keepIn K (.ref fG) = true) (bG : L2.Binds K fdG ["_law_rows", "_law_guild_here"] [])
    (GF : FnOk P w K mg base CX0 k fF fdF ["_law_due_here", "_law_borne", "_law_gang_here"] (spLFit K)) (mF : mg "_law_fits" = some (.ref fF)) (kF : PySem.W.keepIn K (.ref fF) = true) (bF : L2.Binds K fdF ["_law_due_here", "_law_borne", "_law_gang_here"] [])
    (GL : FnOk P w K mg base CX0 k fL fdL ["_law_due_here", "_law_rows"] (spLPart K)) (mL : mg "_law_parted" = some (.ref fL)) (kL : PySem.W.keepIn K (.ref fL) = true) (bL : L2.Binds K fdL ["_law_due_here", "_law_rows"] [])
    (GO : FnOk P w K mg base CX0 k fO fdO ["_law_rows"] (spOrder K)) (mO : mg "_law_order" = some (.ref fO)) (kO : PySem.W.keepIn K (.ref fO) = true) (bO : L2.Binds K fdO ["_law_rows"] []) :
    FnOk P w K mg base CX0 (k + 1) f fd ["_law_dues", "_law_rows", "_law_gang_here"] (spTaken K) := by
  refine F.ok scTaken (fun vs H Q E h => ?_) (fun cdv A outer s H vs Q E hr h => ?_)
  · obtain ⟨d, a, g, wr, kvs, as, Rs, G, rfl, _⟩ := h
    rfl
  · obtain ⟨d, a, g, wr, kvs, as, Rs, G, rfl, I, ⟨ps0, ed0⟩, ea0, l12, hg, fG, wG, gG, q⟩ := h
    have la : as.length = Rs.length := I.prs.length
    have few := I.few
    have w1 := I.w1
    have w8 := I.w8
    have gof : Good2 (ofG Rs G.guild) := I.good.sub List.filter_sublist
    refine ⟨_, (pss_cons (ps_set (i := 3) scTaken.nd rfl (.inl rfl) (pe_call GG hr (by rfl) mG kG bG .nil pass0 (pa_cons (pv 1) (pa_cons (pe_ix ix_tup (pv 2) pe_int (fun _ _ => rfl)) pa_nil))))
      (pss_cons (ps_set (i := 4) scTaken.nd rfl (.inl rfl) (pe_call GF hr (by rfl) mF kF bF .nil pass0 (pa_cons (pe_dget (hu_of hr) (pv 0) (pe_ix ix_tup (pv 2) pe_int (fun _ _ => rfl)) (fun _ _ => rfl)) (pa_cons (pe_ix ix_tup (pe_call GL hr (by rfl) mL kL bL .nil pass0 (pa_cons (pe_dget (hu_of hr) (pv 0) (pe_ix ix_tup (pv 2) pe_int (fun _ _ => rfl)) (fun _ _ => rfl)) (pa_cons (pv 3) pa_nil))) pe_int (fun _ _ => rfl)) (pa_cons (pv 2) pa_nil)))))
      (pss_cons (ps_setLc (i := 5) (own := [("_law_row", 12)]) (g := (gName 12)) rfl scTaken.nd rfl rfl (sw_true rfl rfl rfl (by decide +kernel)) (pi_list (pv 3)) (blkOk_by (own := [("_law_row", 12)]) (N := n_scTaken) (sc := defScope s_scTaken) (by decide +kernel)) (fun _ _ _ _ _ => (pg_name (i := 12) scTaken.nd rfl (.inl rfl))) (fun _ _ _ _ _ => pts_one (pt_cmpR op_ge (pe_ix (r := rIxT K) ix_tup (pe_ix (r := rIxT K) ix_tup (pv 12) pe_int (fun _ _ => rfl)) pe_int (fun _ _ => rfl)) (pe_ix (r := rIxT K) ix_tup (pv 2) pe_int (fun _ _ => rfl)) (nomark _))) (fun _ _ _ _ _ => (pv 12)))
      (pss_cons (ps_set (i := 6) scTaken.nd rfl (.inl rfl) (pe_call GF hr (by rfl) mF kF bF .nil pass0 (pa_cons (pe_dget (hu_of hr) (pv 0) (pe_ix ix_tup (pv 2) pe_int (fun _ _ => rfl)) (fun _ _ => rfl)) (pa_cons (pe_ix ix_tup (pe_call GL hr (by rfl) mL kL bL .nil pass0 (pa_cons (pe_dget (hu_of hr) (pv 0) (pe_ix ix_tup (pv 2) pe_int (fun _ _ => rfl)) (fun _ _ => rfl)) (pa_cons (pv 5) pa_nil))) pe_int (fun _ _ => rfl)) (pa_cons (pv 2) pa_nil)))))
      (pss_cons (ps_set (i := 7) scTaken.nd rfl (.inl rfl) (pe_lst pa_nil))
      (C8.pss_cut (ps_lock (ps_for PassesOwn.never rfl (pi_keys (pv 0)) (pg_name (i := 8) scTaken.nd rfl (.inl rfl))
        (pss_one (ps_expr (pe_bm PySem.F.plainAttrs_list PySem.F.slot_list_extend PySem.F.type_list_extend mt_extend (pv 7) (pa_cons (pe_ix ix_tup (pe_call GL hr (by rfl) mL kL bL .nil pass0 (pa_cons (pe_dget (hu_of hr) (pv 0) (pv 8) (fun _ _ => rfl)) (pa_cons (pe_call GG hr (by rfl) mG kG bG .nil pass0 (pa_cons (pv 1) (pa_cons (pv 8) pa_nil))) pa_nil))) pe_int (fun _ _ => rfl)) pa_nil))))))
      (pss_cons (ps_set (i := 9) scTaken.nd rfl (.inl rfl) (pe_lst pa_nil))
      (C8.pss_cut (ps_for PassesOwn.never rfl (pi_reversed (by rfl) mRev (pa_cons (pe_call GO hr (by rfl) mO kO bO .nil pass0 (pa_cons (pv 1) pa_nil)) pa_nil)) (pg_tup rfl (pgs_cons (pg_name (i := 10) scTaken.nd rfl (.inl rfl)) (pgs_cons (pg_name (i := 11) scTaken.nd rfl (.inl rfl)) pgs_nil)))
        (pss_one (ps_if (pt_cmpR op_eq (pe_ix ix_tup (pv 10) pe_int (fun _ _ => rfl)) (pe_ix ix_tup (pv 2) pe_int (fun _ _ => rfl)) (nomark _))
          (pss_one (ps_if (PW.pt (pw_and (pt_cmpR op_lt (pe_ix ix_tup (pv 10) pe_int (fun _ _ => rfl)) (pe_ix ix_tup (pv 2) pe_int (fun _ _ => rfl)) (nomark _)) (pw_and1 (PW.pt (pw_or (pt_val (pv 6)) (pw_or1 (pt_cmpR op_in_seq (pe_ix ix_tup (pv 10) pe_int (fun _ _ => rfl)) (pv 7) (by rfl))))))))
            (pss_one (ps_expr (pe_bm PySem.F.plainAttrs_list PySem.F.slot_list_append PySem.F.type_list_append mt_append (pv 9) (pa_cons (pe_tup (pa_cons (pe_ix ix_tup (pv 10) pe_int (fun _ _ => rfl)) (pa_cons pe_str pa_nil))) pa_nil))))
            pss_nil))
          (pss_one (ps_if (PW.pt (pw_and (pt_cmpR op_in_seq (pe_ix ix_tup (pv 10) pe_int (fun _ _ => rfl)) (pv 7) (by rfl)) (pw_and1 (pt_val (pv 4)))))
            (pss_one (ps_expr (pe_bm PySem.F.plainAttrs_list PySem.F.slot_list_append PySem.F.type_list_append mt_append (pv 9) (pa_cons (pe_tup (pa_cons (pe_ix ix_tup (pv 10) pe_int (fun _ _ => rfl)) (pa_cons pe_str pa_nil))) pa_nil))))
            (pss_one (ps_if (PW.pt (pw_and (pt_cmpR op_in_seq (pe_ix ix_tup (pv 10) pe_int (fun _ _ => rfl)) (pv 7) (by rfl)) (pw_and1 (pt_cmpR op_lt (pe_ix ix_tup (pv 10) pe_int (fun _ _ => rfl)) (pe_ix ix_tup (pv 2) pe_int (fun _ _ => rfl)) (nomark _)))))
              (pss_one (ps_expr (pe_bm PySem.F.plainAttrs_list PySem.F.slot_list_append PySem.F.type_list_append mt_append (pv 9) (pa_cons (pe_tup (pa_cons (pe_ix ix_tup (pv 10) pe_int (fun _ _ => rfl)) (pa_cons pe_str pa_nil))) pa_nil))))
              pss_nil)))))))
      (pss_one (ps_ret (pv 9))))))))))), ?_⟩
    obtain ⟨wg, g1, g2⟩ := id hg
    -- mine
    refine ⟨_, rfl, _, rfl, g, _, 1, .str G.guild, rfl, rfl, SqT.of g1, rfl, a, as, Rs, G.guild, rfl, I.rows, I.prs, by omega, fun m ms H1 s1 nm em pm => ?_⟩
    have I1 := I.same s1
    obtain ⟨av, dg1, ev1, lv⟩ := I1.get gG
    have lm : ms.length = (ofG Rs G.guild).length := pm.length
    have lmR : (ofG Rs G.guild).length ≤ Rs.length := List.length_filter_le _ _
    have wof : ∀ R ∈ ofG Rs G.guild, R.1.want.length = (dueOf kvs G.guild).length := fun R hR => by rw [I.want R (List.mem_filter.mp hR).1, lv]
    have gi : GIn H (dueOf kvs G.guild) g G := ⟨hg, fG, by rw [wG, lv]⟩
    have g11 := s1 _ _ g1
    -- is owed
    refine ⟨_, rfl, _, rfl, g, _, 1, .str G.guild, rfl, rfl, SqT.of g11, rfl, d, _, rfl, dg1, _, rfl, _, rfl, g, _, 1, .str G.guild, rfl, rfl, SqT.of g11, rfl, d, _, rfl, dg1, _, rfl, av, m, dueOf kvs G.guild, ms, ofG Rs G.guild, rfl, ⟨SqT.of ev1, by omega, by omega, SqL.of em, pm, gof, wof⟩, fun t3 o1 l1 b1 H3 s3 nt3 et3 _ _ _ eo1 el1 eb1 => ?_⟩
    have s13 := s1.trans s3
    refine ⟨t3, _, 2, .ref b1, rfl, rfl, SqT.of et3, rfl, _, rfl, av, b1, g, dueOf kvs G.guild, (partRs (dueOf kvs G.guild) (ofG Rs G.guild)).2.2, G, rfl, SqT.of (s3 _ _ ev1), by omega, eb1, load_len wof, gi.kt (Same.kt s13), fun H4 s4 => ?_⟩
    have s14 := s13.trans s4
    have s34 := s3.trans s4
    -- above
    have em4 := s34 _ _ em
    have pm4 : Paired (RowAt H4) ms (ofG Rs G.guild) := pm.mono fun _ _ x => x.same s34
    have g14 := s14 _ _ g1
    refine ⟨_, rfl, m, rfl, ⟨_, SqL.of em4⟩, fun D nD => ?_⟩
    refine lc_list (K := K) (a := m) (xs := ms.map V.ref) (fun j H' => Same H4 H' ∧ ∃ bs : List Addr, H' D = some (.lst (bs.map V.ref)) ∧ bs.length ≤ j ∧ Paired (RowAt H') bs (aboveOf G.rank ((ofG Rs G.guild).take j)))
      ⟨same_upd nD, [], upd_same, Nat.le_refl _, .nil⟩ (fun j H' _ p => SqL.of (p.1 _ _ em4)) (fun j x H2 hx p => ?_) (fun H5 p => ?_)
    · obtain ⟨p1, bs, p2, p3, p4⟩ := p
      obtain ⟨ra, hra, rfl⟩ := map_get hx
      have hj : j < ms.length := (List.getElem?_eq_some_iff.mp hra).1
      obtain ⟨R, hR, rat⟩ := paired_get pm4 hra
      have r2 := rat.same p1
      obtain ⟨ga, h1, wa, h2, _⟩ := id r2
      have tk : aboveOf G.rank ((ofG Rs G.guild).take (j + 1)) = aboveOf G.rank ((ofG Rs G.guild).take j) ++ aboveOf G.rank [R] := by
        unfold aboveOf
        rw [List.take_add_one, hR, List.filter_append]
        rfl
      refine ⟨rfl, ?_⟩
      refine ⟨_, rfl, ra, _, 0, .ref ga, rfl, rfl, SqT.of h1, rfl, ga, _, 2, .int R.1.rank, rfl, rfl, SqT.of h2, rfl, _, rfl, g, _, 2, .int G.rank, rfl, rfl, SqT.of (p1 _ _ g14), rfl, _, _, rfl, rfl, _, rfl, ite2 (fun e => ?_) (fun e => ?_)⟩
      · have e' : aboveOf G.rank [R] = [R] := by
          unfold aboveOf
          rw [List.filter_cons_of_pos (p := fun R : Gang × Int => decide (G.rank ≤ R.1.rank)) e]
          rfl
        have kt : KTu H2 (upd H2 D (.lst (bs.map V.ref ++ [V.ref ra]))) := kt_put p2 (fun xs z => by cases z)
        refine ⟨_, rfl, _, p2, ?_, same_put p1 nD, bs ++ [ra], ?_, ?_, ?_⟩
        · rw [List.length_map]
          exact small63 (by omega)
        · rw [upd_same, List.map_append]
          rfl
        · rw [List.length_append]
          show bs.length + 1 ≤ j + 1
          omega
        · rw [tk, e']
          exact Paired.snoc (p4.mono fun _ _ x => x.kt kt) (r2.kt kt)
      · have e' : aboveOf G.rank [R] = [] := by
          unfold aboveOf
          rw [List.filter_cons_of_neg (p := fun R : Gang × Int => decide (G.rank ≤ R.1.rank)) e]
          rfl
        refine ⟨p1, bs, p2, by omega, ?_⟩
        rw [tk, e', List.append_nil]
        exact p4
    obtain ⟨s5, bs, eD, lbs, pbs⟩ := p
    rw [List.length_map, List.take_of_length_le (by omega)] at pbs
    have gAb : Good2 (aboveOf G.rank (ofG Rs G.guild)) := gof.sub List.filter_sublist
    have wAb : ∀ R ∈ aboveOf G.rank (ofG Rs G.guild), R.1.want.length = (dueOf kvs G.guild).length := fun R hR => wof R (List.mem_filter.mp hR).1
    have s15 := s14.trans s5
    have I5 := I.same s15
    obtain ⟨av5, dg5, ev5, _⟩ := I5.get gG
    have g15 := s15 _ _ g1
    -- is own
    refine ⟨_, rfl, _, rfl, g, _, 1, .str G.guild, rfl, rfl, SqT.of g15, rfl, d, _, rfl, dg5, _, rfl, _, rfl, g, _, 1, .str G.guild, rfl, rfl, SqT.of g15, rfl, d, _, rfl, dg5, _, rfl, av5, D, dueOf kvs G.guild, bs, aboveOf G.rank (ofG Rs G.guild), rfl, ⟨SqT.of ev5, by omega, by omega, SqL.of eD, pbs, gAb, wAb⟩, fun t6 o2 l2 b2 H6 s6 nt6 et6 _ _ _ eo2 el2 eb2 => ?_⟩
    have s16 := s15.trans s6
    refine ⟨t6, _, 2, .ref b2, rfl, rfl, SqT.of et6, rfl, _, rfl, av5, b2, g, dueOf kvs G.guild, (partRs (dueOf kvs G.guild) (aboveOf G.rank (ofG Rs G.guild))).2.2, G, rfl, SqT.of (s6 _ _ ev5), by omega, eb2, load_len wAb, gi.kt (Same.kt s16), fun H7 s7 => ?_⟩
    have s17 := s16.trans s7
    -- lent
    refine ⟨by show 0 ≤ sizeLine; decide, fun le nle => ?_⟩
    have s18 : Same H (upd H7 le (.lst [])) := s17.trans (same_upd nle)
    have e8 : upd H7 le (.lst []) le = some (.lst []) := upd_same
    have nleH : H le = none := s17.free nle
    generalize upd H7 le (.lst []) = H8 at s18 e8 ⊢
    have I8 := I.same s18
    have ed8 := s18 _ _ ed0
    have ea8 := s18 _ _ ea0
    refine ⟨fun σ H' => ∃ y8, σ = [some (.ref d), some (.ref a), some (.ref g), some (.ref m), some (.bl (owedB (dueOf kvs G.guild) (ofG Rs G.guild) G)), some (.ref D), some (.bl (ownB (dueOf kvs G.guild) (ofG Rs G.guild) G)), some (.ref le), y8, none, none, none, none] ∧ Same H H' ∧ H' le = some (.lst ((lentAll kvs Rs kvs).map V.str)), ?_, fun σ H9 hm => ?_⟩
    · refine ⟨d, _, ed8, trivial, fun od => ?_⟩
      have led : le ≠ d := fun z => by
        rw [z, ed0] at nleH
        cases nleH
      have ned : a ≠ d := fun z => by
        rw [z, ed0] at ea0
        cases ea0
      have ek : upd H8 d (.frz od (.dK ps0)) d = some (.frz od (.dK ps0)) := upd_same
      have k8 : KTu H8 (upd H8 d (.frz od (.dK ps0))) := kt_put ed8 (fun xs z => by cases z)
      have ea9 : upd H8 d (.frz od (.dK ps0)) a = some (.lst (as.map V.ref)) := by
        rw [upd_ne ned]
        exact ea8
      have el9 : upd H8 d (.frz od (.dK ps0)) le = some (.lst []) := by
        rw [upd_ne led]
        exact e8
      obtain ⟨ps, h1, h2⟩ := I8.dues
      have eps : ps = ps0 := by
        rcases h1 with z | ⟨od', z⟩
        · rw [ed8] at z
          injection z with z
          injection z with z
          exact z.symm
        · rw [ed8] at z
          cases z
      subst eps
      have pd9 : Paired (DueAt (upd H8 d (.frz od (.dK ps)))) ps kvs := h2.mono fun _ _ x => x.kt k8
      have I9 : DR K (upd H8 d (.frz od (.dK ps))) d a wr kvs as Rs := ⟨⟨ps, .inr ⟨od, ek⟩, pd9⟩, I.keys, I.len, w1, w8, SqL.of ea9, I8.prs.mono fun _ _ x => x.kt k8, I.good, few, I.want, I.guild⟩
      have back : ∀ {H' : Hp}, (∀ x o, x ≠ le → upd H8 d (.frz od (.dK ps)) x = some o → H' x = some o) → Same H (upd H' d (.dK ps)) := fun {H'} h x o e => by
        by_cases z : x = d
        · rw [z] at e ⊢
          rw [upd_same, ← e, ed0]
        · rw [upd_ne z]
          refine h x o (fun z' => by rw [z', nleH] at e; cases e) ?_
          rw [upd_ne z]
          exact s18 _ _ e
      generalize upd H8 d (.frz od (.dK ps)) = Ha at ek k8 ea9 el9 pd9 I9 back ⊢
      refine ⟨_, rfl, d, od, rfl, .inl ⟨ps, ek, ?_⟩⟩
      refine for_it walk_keys (fun i σ H' => ∃ y8, σ = [some (.ref d), some (.ref a), some (.ref g), some (.ref m), some (.bl (owedB (dueOf kvs G.guild) (ofG Rs G.guild) G)), some (.ref D), some (.bl (ownB (dueOf kvs G.guild) (ofG Rs G.guild) G)), some (.ref le), y8, none, none, none, none] ∧ (∀ x o, x ≠ le → Ha x = some o → H' x = some o) ∧ H' le = some (.lst ((lentAll kvs Rs (kvs.take i)).map V.str)))
        ⟨none, rfl, fun _ _ _ h => h, el9⟩ (fun i σ H' _ p => ?_) (fun i x σ Hbo Hb hi p y => ?_) (fun σ Hb p => ?_)
      · obtain ⟨_, _, p1, _⟩ := p
        exact p1 _ _ led.symm ek
      · obtain ⟨y8, rfl, p1, p2⟩ := p
        obtain ⟨rfl, kk, v, hk, rfl⟩ := y
        obtain ⟨kv, hkv, e1, avv, e2, e3⟩ := paired_get pd9 hk
        have e1' : kk = Sum.inr kv.1 := e1
        have e2' : v = .ref avv := e2
        subst e1' e2'
        have mkv : kv ∈ kvs := List.mem_of_getElem? hkv
        have hik : i < kvs.length := (List.getElem?_eq_some_iff.mp hkv).1
        have de : dueOf kvs kv.1 = kv.2 := dueOf_eq I.keys mkv
        have lkv := I.len kv mkv
        have neD : ∀ x, (∃ o, Ha x = some o ∧ ∀ xs, o ≠ .lst xs) → x ≠ le := fun x ⟨o, h, n⟩ z => by
          rw [z, el9] at h
          injection h with h
          exact n _ h.symm
        have ktb : KTu Ha Hb := fun x xs h => p1 x _ (neD x ⟨_, h, fun ys z => by cases z⟩) h
        have ale : a ≠ le := fun z => by
          rw [← z, ea0] at nleH
          cases nleH
        have eab := p1 _ _ ale ea9
        have edb := p1 _ _ led.symm ek
        have prb : Paired (RowAt Hb) as Rs := I9.prs.mono fun _ _ x => x.kt ktb
        have evb := ktb _ _ e3
        have vv : valV ps (Sum.inr kv.1) = some (.ref avv) := valV_get (by rw [due_keys pd9]; exact keys_nd I.keys) hk
        have gM : Good2 (ofG Rs kv.1) := I.good.sub List.filter_sublist
        have wM : ∀ R ∈ ofG Rs kv.1, R.1.want.length = kv.2.length := fun R hR => by rw [I.want R (List.mem_filter.mp hR).1, lkv]
        refine ⟨_, rfl, .inl ⟨rfl, _, SqL.of p2⟩, _, rfl, _, rfl, d, _, rfl, dgetR (.inr ⟨od, edb⟩) vv, _, rfl, _, rfl, a, as, Rs, kv.1, rfl, SqL.of eab, prb, by omega, fun m2 ms2 Hc sc nm2 em2 pm2 => ?_⟩
        refine ⟨avv, m2, kv.2, ms2, ofG Rs kv.1, rfl, ⟨SqT.of (sc _ _ evb), by omega, by omega, SqL.of em2, pm2, gM, wM⟩, fun t9 o9 l9 b9 Hd sd nt9 et9 no9 nl9 nb9 eo9 el9' eb9 => ?_⟩
        have scd := sc.trans sd
        have lel : lentOfG kvs Rs kv.1 = (partRs kv.2 (ofG Rs kv.1)).2.1.map (·.name) := by
          unfold lentOfG
          rw [de]
        have tk : lentAll kvs Rs (kvs.take (i + 1)) = lentAll kvs Rs (kvs.take i) ++ lentOfG kvs Rs kv.1 := by
          unfold lentAll
          rw [List.take_add_one, hkv, List.flatMap_append]
          simp
        have ll := lentAll_len kvs Rs (kvs.take i)
        have lg := lentG_len kvs Rs kv.1
        have lmul : (kvs.take i).length * Rs.length ≤ 12 * 60 := Nat.mul_le_mul (by rw [List.length_take]; omega) few
        refine ⟨t9, _, 1, .ref l9, rfl, rfl, SqT.of et9, rfl, le, l9, _, _, rfl, rfl, scd _ _ p2, el9', ?_, _, rfl, fun x o nx e => ?_, ?_⟩
        · rw [List.length_map, List.length_map, ← lel]
          exact Nat.le_of_lt (small1000 (by omega))
        · rw [upd_ne nx]
          exact scd _ _ (p1 x o nx e)
        · rw [upd_same, tk, List.map_append, lel]
      · obtain ⟨y8, rfl, p1, p2⟩ := p
        have lk : kvs.length = ps.length := pd9.length.symm
        rw [← lk, List.take_length] at p2
        refine ⟨p1 _ _ led.symm ek, _, rfl, back p1, ?_⟩
        rw [upd_ne led]
        exact p2
    obtain ⟨y8, rfl, s19, el9⟩ := hm
    -- found
    refine ⟨by show 0 ≤ sizeLine; decide, fun fo nfo => ?_⟩
    have sA : Same H (upd H9 fo (.lst [])) := s19.trans (same_upd nfo)
    have eA : upd H9 fo (.lst []) fo = some (.lst []) := upd_same
    have elA := same_upd (o := .lst []) nfo _ _ el9
    have nfoH : H fo = none := s19.free nfo
    have fle : fo ≠ le := fun z => by
      rw [z, el9] at nfo
      cases nfo
    generalize upd H9 fo (.lst []) = HA at sA eA elA ⊢
    have IA := I.same sA
    refine ⟨fun σ H' => σ[9]? = some (some (.ref fo)) ∧ Same H H' ∧ ∃ ts : List Addr, H' fo = some (.lst (ts.map V.ref)) ∧ Paired (TelAt H') ts (takenL kvs Rs G), ?_, fun σ H' hm => ?_⟩
    · refine ⟨_, rfl, a, as, Rs, rfl, IA.rows, IA.prs, I.good, fun po HB bs2 sB npo epo pbs2 => ⟨po, _, rfl, SqL.of epo, ?_⟩⟩
      have lb2 : bs2.length = Rs.length := by rw [pbs2.length, (ord_perm Rs).length_eq]
      refine for_it walk_rev (fun i σ H' => ∃ y10 y11, σ = [some (.ref d), some (.ref a), some (.ref g), some (.ref m), some (.bl (owedB (dueOf kvs G.guild) (ofG Rs G.guild) G)), some (.ref D), some (.bl (ownB (dueOf kvs G.guild) (ofG Rs G.guild) G)), some (.ref le), y8, some (.ref fo), y10, y11, none] ∧ Same H H' ∧ (∀ x o, x ≠ fo → HB x = some o → H' x = some o) ∧ ∃ ts : List Addr, H' fo = some (.lst (ts.map V.ref)) ∧ ts.length ≤ i ∧ Paired (TelAt H') ts ((((ord Rs).map (·.1)).reverse.take i).flatMap (takenOf kvs Rs G)))
        ⟨none, none, rfl, sA.trans sB, fun _ _ _ h => h, [], sB _ _ eA, Nat.le_refl _, .nil⟩ (fun i σ H' _ p => ?_) (fun i x σ HCo HC hi p y => ?_) (fun σ HC p => ?_)
      · obtain ⟨_, _, _, _, p1, _⟩ := p
        refine SqL.of (p1 _ _ (fun z => ?_) epo)
        rw [z, eA] at npo
        cases npo
      · obtain ⟨y10, y11, rfl, q1, q2, ts, q4, q5, q6⟩ := p
        obtain ⟨rfl, hx⟩ := y
        obtain ⟨ro, hro, rfl⟩ := map_get hx
        rw [List.length_map] at hro hi
        obtain ⟨RO, hRO, roat⟩ := paired_get pbs2 hro
        have ktc : KTu HB HC := fun x xs h => q2 x _ (fun z => by
          rw [z, sB _ _ eA] at h
          cases h) h
        obtain ⟨o, h1, wo, h2, h3⟩ := roat.kt ktc
        have hO : ((ord Rs).map (·.1)).reverse[i]? = some RO.1 := by
          rw [List.getElem?_reverse (by rw [List.length_map, (ord_perm Rs).length_eq]; omega), List.length_map, (ord_perm Rs).length_eq, List.getElem?_map, ← lb2, hRO]
          rfl
        generalize RO.1 = O at h2 h3 hO
        have tk : (((ord Rs).map (·.1)).reverse.take (i + 1)).flatMap (takenOf kvs Rs G) = (((ord Rs).map (·.1)).reverse.take i).flatMap (takenOf kvs Rs G) ++ takenOf kvs Rs G O := by
          rw [List.take_add_one, hO, List.flatMap_append]
          simp
        have gC := q1 _ _ g1
        have elC : HC le = some (.lst ((lentAll kvs Rs kvs).map V.str)) := q2 _ _ fle.symm (sB _ _ elA)
        have inl : inV (.str O.name) ((lentAll kvs Rs kvs).map V.str) = lentIn kvs Rs O.name := by
          rw [inV_strs]
          exact lentAll_mem I.guild _
        have flt := flat_strs (lentAll kvs Rs kvs)
        refine ⟨ro, _, rfl, SqT.of h1, rfl, _, _, rfl, _, _, rfl, rfl, ?_⟩
        have none_ : takenOf kvs Rs G O = [] → ∃ y10 y11, [some (.ref d), some (.ref a), some (.ref g), some (.ref m), some (.bl (owedB (dueOf kvs G.guild) (ofG Rs G.guild) G)), some (.ref D), some (.bl (ownB (dueOf kvs G.guild) (ofG Rs G.guild) G)), some (.ref le), y8, some (.ref fo), some (.ref o), some (.int RO.2), none] = [some (.ref d), some (.ref a), some (.ref g), some (.ref m), some (.bl (owedB (dueOf kvs G.guild) (ofG Rs G.guild) G)), some (.ref D), some (.bl (ownB (dueOf kvs G.guild) (ofG Rs G.guild) G)), some (.ref le), y8, some (.ref fo), y10, y11, none] ∧ Same H HC ∧ (∀ x o, x ≠ fo → HB x = some o → HC x = some o) ∧ ∃ ts : List Addr, HC fo = some (.lst (ts.map V.ref)) ∧ ts.length ≤ i + 1 ∧ Paired (TelAt HC) ts ((((ord Rs).map (·.1)).reverse.take (i + 1)).flatMap (takenOf kvs Rs G)) := fun e => by
          rw [tk, e, List.append_nil]
          exact ⟨_, _, rfl, q1, q2, ts, q4, by omega, q6⟩
        have one_ : ∀ z : Str, takenOf kvs Rs G O = [(O.name, z)] → ∀ t, HC t = none → HC fo = some (.lst (ts.map V.ref)) → ∃ y10 y11, [some (.ref d), some (.ref a), some (.ref g), some (.ref m), some (.bl (owedB (dueOf kvs G.guild) (ofG Rs G.guild) G)), some (.ref D), some (.bl (ownB (dueOf kvs G.guild) (ofG Rs G.guild) G)), some (.ref le), y8, some (.ref fo), some (.ref o), some (.int RO.2), none] = [some (.ref d), some (.ref a), some (.ref g), some (.ref m), some (.bl (owedB (dueOf kvs G.guild) (ofG Rs G.guild) G)), some (.ref D), some (.bl (ownB (dueOf kvs G.guild) (ofG Rs G.guild) G)), some (.ref le), y8, some (.ref fo), y10, y11, none] ∧ Same H (upd (upd HC t (.tup [.str O.name, .str z])) fo (.lst (ts.map V.ref ++ [V.ref t]))) ∧ (∀ x o, x ≠ fo → HB x = some o → upd (upd HC t (.tup [.str O.name, .str z])) fo (.lst (ts.map V.ref ++ [V.ref t])) x = some o) ∧ ∃ ts' : List Addr, upd (upd HC t (.tup [.str O.name, .str z])) fo (.lst (ts.map V.ref ++ [V.ref t])) fo = some (.lst (ts'.map V.ref)) ∧ ts'.length ≤ i + 1 ∧ Paired (TelAt (upd (upd HC t (.tup [.str O.name, .str z])) fo (.lst (ts.map V.ref ++ [V.ref t])))) ts' ((((ord Rs).map (·.1)).reverse.take (i + 1)).flatMap (takenOf kvs Rs G)) := fun z e t nt _ => by
          have st : Same HC (upd HC t (.tup [.str O.name, .str z])) := same_upd nt
          have et : upd HC t (.tup [.str O.name, .str z]) t = some (.tup [.str O.name, .str z]) := upd_same
          generalize upd HC t (.tup [.str O.name, .str z]) = HD at st et ⊢
          have q4b := st _ _ q4
          have kp : KTu HD (upd HD fo (.lst (ts.map V.ref ++ [V.ref t]))) := kt_put q4b (fun xs z => by cases z)
          refine ⟨_, _, rfl, same_put (q1.trans st) nfoH, fun x o nx h => ?_, ts ++ [t], ?_, ?_, ?_⟩
          · rw [upd_ne nx]
            exact st _ _ (q2 _ _ nx h)
          · rw [upd_same, List.map_append]
            rfl
          · rw [List.length_append]
            show ts.length + 1 ≤ i + 1
            omega
          · rw [tk, e]
            exact Paired.snoc (q6.mono fun _ _ x => (x.kt (Same.kt st)).kt kp) (TelAt.kt kp et)
        have lts : (ts.map V.ref).length < sizeLine := by
          rw [List.length_map]
          exact small63 (by omega)
        refine ⟨_, rfl, o, _, 1, .str O.guild, rfl, rfl, SqT.of h2, rfl, _, rfl, g, _, 1, .str G.guild, rfl, rfl, SqT.of gC, rfl, rfl, _, rfl, ite2 (fun e => ?_) (fun e => ?_)⟩
        · have e' : O.guild = G.guild := by
            have h := of_decide_eq_true e
            injection h
          have gr : groundOf kvs Rs G O = gIn (decide (O.rank < G.rank)) (lentIn kvs Rs O.name) (ownB (dueOf kvs G.guild) (ofG Rs G.guild) G) := by
            unfold groundOf
            rw [if_pos e']
          have no : gIn (decide (O.rank < G.rank)) (lentIn kvs Rs O.name) (ownB (dueOf kvs G.guild) (ofG Rs G.guild) G) = none → takenOf kvs Rs G O = [] := fun h => by
            unfold takenOf
            rw [gr, h]
          have yes : gIn (decide (O.rank < G.rank)) (lentIn kvs Rs O.name) (ownB (dueOf kvs G.guild) (ofG Rs G.guild) G) = some ("rank" : Str) → takenOf kvs Rs G O = [(O.name, ("rank" : Str))] := fun h => by
            unfold takenOf
            rw [gr, h]
          refine ⟨_, rfl, o, _, 2, .int O.rank, rfl, rfl, SqT.of h2, rfl, _, rfl, g, _, 2, .int G.rank, rfl, rfl, SqT.of gC, rfl, _, _, rfl, rfl, _, rfl, ?_⟩
          cases hlt : decide (O.rank < G.rank) with
          | false =>
            rw [hlt] at no
            exact iteF (iteF (none_ (no rfl)))
          | true =>
            rw [hlt] at no yes
            refine iteT ⟨_, rfl, _, rfl, ?_⟩
            cases how : ownB (dueOf kvs G.guild) (ofG Rs G.guild) G with
            | true =>
              rw [how] at yes
              refine iteT (iteT ⟨_, rfl, .inl ⟨rfl, _, SqL.of q4⟩, _, rfl, o, _, 0, .str O.name, rfl, rfl, SqT.of h2, rfl, by show 2 ≤ sizeLine; decide, fun t nt => ⟨fo, _, _, rfl, rfl, same_upd nt _ _ q4, lts, ?_⟩⟩)
              rw [how] at one_
              exact one_ "rank" (yes (by cases lentIn kvs Rs O.name <;> rfl)) t nt q4
            | false =>
              rw [how] at yes no none_ one_
              refine iteF ⟨_, rfl, o, _, 0, .str O.name, rfl, rfl, SqT.of h2, rfl, _, rfl, le, _, rfl, .inl (SqL.of elC), rfl, flt, _, rfl, ?_⟩
              rw [if_neg (by decide), inl]
              cases hle : lentIn kvs Rs O.name with
              | true =>
                rw [hle] at yes
                refine iteT ⟨_, rfl, .inl ⟨rfl, _, SqL.of q4⟩, _, rfl, o, _, 0, .str O.name, rfl, rfl, SqT.of h2, rfl, by show 2 ≤ sizeLine; decide, fun t nt => ⟨fo, _, _, rfl, rfl, same_upd nt _ _ q4, lts, ?_⟩⟩
                exact one_ "rank" (yes rfl) t nt q4
              | false =>
                rw [hle] at no
                exact iteF (none_ (no rfl))
        · have e' : ¬ O.guild = G.guild := fun h => e (decide_eq_true (congrArg V.str h))
          have gr : groundOf kvs Rs G O = gBey (decide (O.rank < G.rank)) (lentIn kvs Rs O.name) (owedB (dueOf kvs G.guild) (ofG Rs G.guild) G) := by
            unfold groundOf
            rw [if_neg e']
          have no : gBey (decide (O.rank < G.rank)) (lentIn kvs Rs O.name) (owedB (dueOf kvs G.guild) (ofG Rs G.guild) G) = none → takenOf kvs Rs G O = [] := fun h => by
            unfold takenOf
            rw [gr, h]
          have yes : ∀ z : Str, gBey (decide (O.rank < G.rank)) (lentIn kvs Rs O.name) (owedB (dueOf kvs G.guild) (ofG Rs G.guild) G) = some z → takenOf kvs Rs G O = [(O.name, z)] := fun z h => by
            unfold takenOf
            rw [gr, h]
          refine ⟨_, rfl, o, _, 0, .str O.name, rfl, rfl, SqT.of h2, rfl, _, rfl, le, _, rfl, .inl (SqL.of elC), rfl, flt, _, rfl, ?_⟩
          rw [if_neg (by decide), inl]
          cases hle : lentIn kvs Rs O.name with
          | false =>
            rw [hle] at no
            refine iteF (iteF ⟨_, rfl, o, _, 0, .str O.name, rfl, rfl, SqT.of h2, rfl, _, rfl, le, _, rfl, .inl (SqL.of elC), rfl, flt, _, rfl, ?_⟩)
            rw [if_neg (by decide), inl, hle]
            exact iteF (iteF (none_ (no rfl)))
          | true =>
            rw [hle] at no yes
            refine iteT ⟨_, rfl, _, rfl, ?_⟩
            cases how : owedB (dueOf kvs G.guild) (ofG Rs G.guild) G with
            | true =>
              rw [how] at yes one_
              exact iteT ⟨_, rfl, .inl ⟨rfl, _, SqL.of q4⟩, _, rfl, o, _, 0, .str O.name, rfl, rfl, SqT.of h2, rfl, by show 2 ≤ sizeLine; decide, fun t nt => ⟨fo, _, _, rfl, rfl, same_upd nt _ _ q4, lts, one_ "share" (yes _ rfl) t nt q4⟩⟩
            | false =>
              rw [how] at yes no none_ one_
              refine iteF ⟨_, rfl, o, _, 0, .str O.name, rfl, rfl, SqT.of h2, rfl, _, rfl, le, _, rfl, .inl (SqL.of elC), rfl, flt, _, rfl, ?_⟩
              rw [if_neg (by decide), inl, hle]
              refine iteT ⟨_, rfl, o, _, 2, .int O.rank, rfl, rfl, SqT.of h2, rfl, _, rfl, g, _, 2, .int G.rank, rfl, rfl, SqT.of gC, rfl, _, _, rfl, rfl, _, rfl, ?_⟩
              cases hlt : decide (O.rank < G.rank) with
              | true =>
                rw [hlt] at yes
                exact iteT ⟨_, rfl, .inl ⟨rfl, _, SqL.of q4⟩, _, rfl, o, _, 0, .str O.name, rfl, rfl, SqT.of h2, rfl, by show 2 ≤ sizeLine; decide, fun t nt => ⟨fo, _, _, rfl, rfl, same_upd nt _ _ q4, lts, one_ "rank" (yes _ rfl) t nt q4⟩⟩
              | false =>
                rw [hlt] at no
                exact iteF (none_ (no rfl))
      · obtain ⟨y10, y11, rfl, q1, q2, ts, q4, q5, q6⟩ := p
        rw [List.length_map, List.take_of_length_le (by rw [List.length_reverse, List.length_map, (ord_perm Rs).length_eq]; omega)] at q6
        exact ⟨rfl, q1, ts, q4, q6⟩
    obtain ⟨h9, sF, ts, eF, pF⟩ := hm
    exact ⟨_, h9, q fo H' ts sF nfoH eF pF⟩
end
end My

namespace My
open PySem PySem.Spec PyProof.Rows L2 GX GxR
abbrev s_scGOf : Stmt := topS 7
abbrev n_scGOf : List Str := ["gang"]
theorem scGOf : FnScope n_scGOf ["gang"] (defScope s_scGOf) := ⟨rfl, rfl, rfl, by decide +kernel, rfl, by decide +kernel, by decide +kernel⟩
abbrev s_scROf : Stmt := topS 19
abbrev n_scROf : List Str := ["rows", "guild", "gang", "number"]
theorem scROf : FnScope n_scROf ["rows", "guild"] (defScope s_scROf) := ⟨rfl, rfl, rfl, by decide +kernel, rfl, by decide +kernel, by decide +kernel⟩
abbrev s_scGr1 : Stmt := topS 21
abbrev n_scGr1 : List Str := ["lesser", "is_lent", "is_own_with"]
theorem scGr1 : FnScope n_scGr1 ["lesser", "is_lent", "is_own_with"] (defScope s_scGr1) := ⟨rfl, rfl, rfl, by decide +kernel, rfl, by decide +kernel, by decide +kernel⟩
abbrev s_scGr2 : Stmt := topS 22
abbrev n_scGr2 : List Str := ["lesser", "is_lent", "is_owed"]
theorem scGr2 : FnScope n_scGr2 ["lesser", "is_lent", "is_owed"] (defScope s_scGr2) := ⟨rfl, rfl, rfl, by decide +kernel, rfl, by decide +kernel, by decide +kernel⟩
abbrev s_scLent : Stmt := topS 20
abbrev n_scLent : List Str := ["dues", "rows", "lent", "guild", "name", "gang", "number"]
theorem scLent : FnScope n_scLent ["dues", "rows"] (defScope s_scLent) := ⟨rfl, rfl, rfl, by decide +kernel, rfl, by decide +kernel, by decide +kernel⟩
abbrev s_scMay : Stmt := topS 23
abbrev n_scMay : List Str := ["dues", "rows", "names", "gang", "guild", "lent", "is_owed", "is_own_with", "pairs", "other", "name", "lesser", "ground"]
theorem scMay : FnScope n_scMay ["dues", "rows", "names", "gang"] (defScope s_scMay) := ⟨rfl, rfl, rfl, by decide +kernel, rfl, by decide +kernel, by decide +kernel⟩
section
variable {P : Program} {w : World} {K : PySem.W.Frag} {mg : Str → Option Value} {base : Heap}
theorem ok_gof {f : Addr} {fd : FuncData} {k : Nat} (F : Fun K "guild_of" "guild_of" s_scGOf f fd) : FnOk P w K mg base CX0 (k + 1) f fd ["gang"] spGOf := by
  refine F.ok scGOf (fun vs H Q E h => ?_) (fun cdv A outer s H vs Q E hr h => ?_)
  · obtain ⟨g, G, rfl, _⟩ := h
    rfl
  · obtain ⟨g, G, rfl, ⟨wa, h1, h2⟩, q⟩ := h
    exact ⟨_, (pss_one (ps_ret (pe_ix ix_tup (pv 0) pe_int (fun _ _ => rfl)))), ⟨_, rfl, g, _, 1, .str G.guild, rfl, rfl, SqT.of h1, rfl, q⟩⟩
theorem ok_rof {f fU : Addr} {fd fdU : FuncData} {k : Nat} (F : Fun K "rows_of_guild" "rows_of_guild" s_scROf f fd)
    (GU : FnOk P w K mg base CX0 k fU fdU ["gang"] spGOf) (mU : mg "guild_of" = some (.ref fU)) (kU : PySem.W.keepIn K (.ref fU) = true) (bU : L2.Binds K fdU ["gang"] []) : FnOk P w K mg base CX0 (k + 1) f fd ["rows", "guild"] (spLGuild K) := by
  refine F.ok scROf (fun vs H Q E h => ?_) (fun cdv A outer s H vs Q E hr h => ?_)
  · obtain ⟨a, as, Rs, z, rfl, _⟩ := h
    rfl
  · obtain ⟨a, as, Rs, z, rfl, hs, prs, hl, q⟩ := h
    have la : as.length = Rs.length := prs.length
    refine ⟨_, (pss_one (ps_ret (pe_lc (own := [("gang", 2), ("number", 3)]) (g := (gTup K 2 (gCons (gName 2) (gCons (gName 3) gNil)))) rfl scROf.nd (pi_list (pv 0)) (blkOk_by (own := [("gang", 2), ("number", 3)]) (N := n_scROf) (sc := defScope s_scROf) (by decide +kernel)) (fun _ _ _ _ _ => (pg_tup rfl (pgs_cons (pg_name (i := 2) scROf.nd rfl (.inl rfl)) (pgs_cons (pg_name (i := 3) scROf.nd rfl (.inl rfl)) pgs_nil)))) (fun _ _ _ _ _ => pts_one (pt_cmpR op_eq (pe_call GU hr (by rfl) mU kU bU .nil pass0 (pa_cons (pv 2) pa_nil)) (pv 1) (nomark _))) (fun _ _ _ _ _ => (pe_tup (pa_cons (pv 2) (pa_cons (pv 3) pa_nil))))))), ?_⟩
    refine ⟨_, rfl, a, rfl, ⟨_, hs⟩, fun D nD => ?_⟩
    refine lc_list (K := K) (a := a) (xs := as.map V.ref) (fun j H' => Same H H' ∧ ∃ cs : List Addr, H' D = some (.lst (cs.map V.ref)) ∧ cs.length ≤ j ∧ Paired (RowAt H') cs ((Rs.take j).filter fun R => decide (R.1.guild = z)))
      ⟨same_upd nD, [], upd_same, Nat.le_refl _, .nil⟩ (fun j H' _ p => p.1.seq hs) (fun j x H2 hx p => ?_) (fun H2 p => ?_)
    · obtain ⟨p1, cs, p2, p3, p4⟩ := p
      obtain ⟨ra, hra, rfl⟩ := map_get hx
      have hj : j < as.length := (List.getElem?_eq_some_iff.mp hra).1
      obtain ⟨R, hR, rat⟩ := paired_get prs hra
      obtain ⟨ga, h1, hga⟩ := rat.same p1
      refine ⟨ra, _, rfl, SqT.of h1, rfl, _, _, rfl, _, _, rfl, rfl, rfl, ?_⟩
      refine ⟨_, rfl, ga, R.1, rfl, hga, _, rfl, rfl, _, rfl, ite2 (fun e => ?_) (fun e => ?_)⟩
      · have e' : decide (R.1.guild = z) = true := by
          have h := of_decide_eq_true e
          injection h with h
          exact decide_eq_true h
        refine ⟨_, rfl, _, rfl, by show 2 ≤ sizeLine; decide, fun t nt => ?_⟩
        have st : Same H2 (upd H2 t (.tup [.ref ga, .int R.2])) := same_upd nt
        have et : upd H2 t (.tup [.ref ga, .int R.2]) t = some (.tup [.ref ga, .int R.2]) := upd_same
        generalize upd H2 t (.tup [.ref ga, .int R.2]) = H3 at st et ⊢
        have kt : KTu H3 (upd H3 D (.lst (cs.map V.ref ++ [V.ref t]))) := kt_put (st _ _ p2) (fun xs z => by cases z)
        refine ⟨_, st _ _ p2, ?_, same_put (p1.trans st) nD, cs ++ [t], ?_, ?_, ?_⟩
        · rw [List.length_map]
          exact small63 (by omega)
        · rw [upd_same, List.map_append]
          rfl
        · rw [List.length_append]
          show cs.length + 1 ≤ j + 1
          omega
        · rw [List.take_add_one, hR, List.filter_append]
          have ef : (some R).toList.filter (fun R : Gang × Int => decide (R.1.guild = z)) = [R] := List.filter_cons_of_pos (p := fun R : Gang × Int => decide (R.1.guild = z)) (l := []) e'
          rw [ef]
          exact Paired.snoc (p4.mono fun _ _ x => (x.same st).kt kt) (RowAt.kt kt ⟨ga, et, hga.same st⟩)
      · have e' : ¬ decide (R.1.guild = z) = true := fun h => e (decide_eq_true (congrArg V.str (of_decide_eq_true h)))
        refine ⟨p1, cs, p2, by omega, ?_⟩
        rw [List.take_add_one, hR, List.filter_append]
        have ef : (some R).toList.filter (fun R : Gang × Int => decide (R.1.guild = z)) = [] := List.filter_cons_of_neg (p := fun R : Gang × Int => decide (R.1.guild = z)) (l := []) e'
        rw [ef, List.append_nil]
        exact p4
    · obtain ⟨p1, cs, p2, p3, p4⟩ := p
      rw [List.length_map, List.take_of_length_le (by omega)] at p4
      exact q D cs H2 p1 nD p2 p4
theorem ok_gr1 {f : Addr} {fd : FuncData} {k : Nat} {t : Tok} (F : Fun K "ground_in_guild" "ground_in_guild" s_scGr1 f fd) (mRank : mg "BY_RANK" = some (.str "rank" t)) : FnOk P w K mg base CX0 (k + 1) f fd ["lesser", "is_lent", "is_own_with"] (spGr gIn) := by
  refine F.ok scGr1 (fun vs H Q E h => ?_) (fun cdv A outer s H vs Q E hr h => ?_)
  · obtain ⟨a, b, c, rfl, _⟩ := h
    rfl
  · obtain ⟨a, b, c, rfl, q⟩ := h
    refine ⟨_, (pss_one (ps_ret (pe_ifExp (PW.pt (pw_and (pt_val (pv 0)) (pw_and1 (PW.pt (pw_or (pt_val (pv 1)) (pw_or1 (pt_val (pv 2)))))))) (pe_glob (v := .str "rank") (by rfl) mRank ⟨_, rfl⟩) pe_non))), ?_⟩
    cases a
    · exact ⟨_, rfl, _, rfl, q⟩
    cases b
    · cases c
      · exact ⟨_, rfl, _, rfl, _, rfl, _, rfl, _, rfl, _, rfl, q⟩
      · exact ⟨_, rfl, _, rfl, _, rfl, _, rfl, _, rfl, _, rfl, q⟩
    · cases c
      · exact ⟨_, rfl, _, rfl, _, rfl, _, rfl, q⟩
      · exact ⟨_, rfl, _, rfl, _, rfl, _, rfl, q⟩
theorem ok_gr2 {f : Addr} {fd : FuncData} {k : Nat} {t t' : Tok} (F : Fun K "ground_beyond_guild" "ground_beyond_guild" s_scGr2 f fd) (mRank : mg "BY_RANK" = some (.str "rank" t)) (mShare : mg "BY_SHARE" = some (.str "share" t')) : FnOk P w K mg base CX0 (k + 1) f fd ["lesser", "is_lent", "is_owed"] (spGr gBey) := by
  refine F.ok scGr2 (fun vs H Q E h => ?_) (fun cdv A outer s H vs Q E hr h => ?_)
  · obtain ⟨a, b, c, rfl, _⟩ := h
    rfl
  · obtain ⟨a, b, c, rfl, q⟩ := h
    refine ⟨_, (C8.pss_cut (ps_if (PW.pt (pw_and (pt_val (pv 1)) (pw_and1 (pt_val (pv 2)))))
        (pss_one (ps_ret (pe_glob (v := .str "share") (by rfl) mShare ⟨_, rfl⟩)))
        pss_nil)
      (pss_one (ps_ret (pe_ifExp (PW.pt (pw_and (pt_val (pv 1)) (pw_and1 (pt_val (pv 0))))) (pe_glob (v := .str "rank") (by rfl) mRank ⟨_, rfl⟩) pe_non)))), ?_⟩
    refine ⟨fun σ H' => σ = [some (.bl a), some (.bl b), some (.bl c)] ∧ H' = H ∧ (b && c) = false, ?_, fun σ H' hm => ?_⟩
    · cases b
      · exact ⟨_, rfl, _, rfl, rfl, rfl, rfl⟩
      · cases c
        · exact ⟨_, rfl, _, rfl, _, rfl, _, rfl, rfl, rfl, rfl⟩
        · exact ⟨_, rfl, _, rfl, _, rfl, _, rfl, q⟩
    obtain ⟨rfl, rfl, hbc⟩ := hm
    unfold gBey at q
    rw [if_neg (by rw [hbc]; decide)] at q
    cases b
    · exact ⟨_, rfl, _, rfl, q⟩
    · cases a
      · exact ⟨_, rfl, _, rfl, _, rfl, _, rfl, q⟩
      · exact ⟨_, rfl, _, rfl, _, rfl, _, rfl, q⟩
theorem ok_lent {f fU fP fR : Addr} {fd fdU fdP fdR : FuncData} {k : Nat} {Ts : List Addr} (F : Fun K "lent_among" "lent_among" s_scLent f fd) (mSorted : mg "sorted" = none)
    (GU : FnOk P w K mg base CX0 k fU fdU ["gang"] spGOf) (mU : mg "guild_of" = some (.ref fU)) (kU : PySem.W.keepIn K (.ref fU) = true) (bU : L2.Binds K fdU ["gang"] [])
    (GP : FnOk P w K mg base CX0 k fP fdP ["due", "rows"] (spParted K Ts)) (mP : mg "parted" = some (.ref fP)) (kP : PySem.W.keepIn K (.ref fP) = true) (bP : L2.Binds K fdP ["due", "rows"] [])
    (GR : FnOk P w K mg base CX0 k fR fdR ["rows", "guild"] (spLGuild K)) (mR : mg "rows_of_guild" = some (.ref fR)) (kR : PySem.W.keepIn K (.ref fR) = true) (bR : L2.Binds K fdR ["rows", "guild"] []) :
    FnOk P w K mg base CX0 (k + 1) f fd ["dues", "rows"] (spLent K Ts) := by
  refine F.ok scLent (fun vs H Q E h => ?_) (fun cdv A outer s H vs Q E hr h => ?_)
  · obtain ⟨d, a, wr, kvs, as, Rs, rfl, _⟩ := h
    rfl
  · obtain ⟨d, a, wr, kvs, as, Rs, rfl, I, tH, q⟩ := h
    have la : as.length = Rs.length := I.prs.length
    have few := I.few
    refine ⟨_, (pss_cons (ps_set (i := 2) scLent.nd rfl (.inl rfl) pe_dnewK)
      (C8.pss_cut (ps_for PassesOwn.never rfl (pi_list (pe_callB (SX.cr_sortS rfl hr.units) (by rfl) mSorted (by decide +kernel) (pa_cons (SX.pe_scS (own := [("gang", 5), ("number", 6)]) (g := (gTup K 2 (gCons (gName 5) (gCons (gName 6) gNil)))) (tt := tYes) rfl scLent.nd (pi_list (pv 1)) (blkOk_by (own := [("gang", 5), ("number", 6)]) (N := n_scLent) (sc := defScope s_scLent) (by decide +kernel)) (fun _ _ _ _ _ => (pg_tup rfl (pgs_cons (pg_name (i := 5) scLent.nd rfl (.inl rfl)) (pgs_cons (pg_name (i := 6) scLent.nd rfl (.inl rfl)) pgs_nil)))) (fun _ _ _ _ _ => pts_nil) (fun _ _ _ _ _ => (pe_call GU hr (by rfl) mU kU bU .nil pass0 (pa_cons (pv 5) pa_nil)))) pa_nil))) (pg_name (i := 3) scLent.nd rfl (.inl rfl))
        (pss_one (ps_for PassesOwn.never rfl (pi_list (pe_ix ix_tup (pe_call GP hr (by rfl) mP kP bP .nil pass0 (pa_cons (pe_dget (hu_of hr) (pv 0) (pv 3) (fun _ _ => rfl)) (pa_cons (pe_call GR hr (by rfl) mR kR bR .nil pass0 (pa_cons (pv 1) (pa_cons (pv 3) pa_nil))) pa_nil))) pe_int (fun _ _ => rfl))) (pg_name (i := 4) scLent.nd rfl (.inl rfl))
          (pss_one (ps_dput (hu_of hr) (pv 2) (pv 4) pe_bl rfl)))))
      (pss_one (ps_ret (pv 2))))), ?_⟩
    refine fun p np => ?_
    have f1 : Fw Ts H (upd H p (.dK [])) := (Fw.refl tH).put tH np
    have e1 : upd H p (.dK []) p = some (.dK []) := upd_same
    generalize upd H p (.dK []) = H1 at f1 e1 ⊢
    have I1 := I.fw tH f1
    refine ⟨fun σ H' => σ[2]? = some (some (.ref p)) ∧ Fw Ts H H' ∧ ∃ qs : List (Key × V), H' p = some (.dK qs) ∧ ∀ z : Str, (valV qs (Sum.inr z)).isSome = lentIn kvs Rs z, ?_, fun σ H' hm => ?_⟩
    · refine ⟨_, rfl, a, rfl, ⟨_, I1.rows⟩, fun D nD => ?_⟩
      refine SX.sc_it (P := P) (w := w) (walk_list (K := K) (a := a) (xs := as.map V.ref)) (fun j H' => Same H1 H' ∧ ∃ zs : List Str, H' D = some (SX.SetSO P w D zs) ∧ zs.length ≤ j ∧ ∀ g, g ∈ zs ↔ ∃ R ∈ Rs.take j, R.1.guild = g)
        ⟨same_upd nD, [], upd_same, Nat.le_refl _, fun g => ⟨fun h => (nomatch h), fun ⟨_, h, _⟩ => (nomatch h)⟩⟩ (fun j H' _ p => p.1.seq I1.rows) (fun j x H2o H2 hj p y => ?_) (fun H2 p => ?_)
      · obtain ⟨p1, zs, p2, p3, p4⟩ := p
        obtain ⟨rfl, hx⟩ := y
        obtain ⟨ra, hra, rfl⟩ := map_get hx
        have hj' : j < as.length := (List.getElem?_eq_some_iff.mp hra).1
        obtain ⟨R, hR, rat⟩ := paired_get I1.prs hra
        obtain ⟨ga, h1, hga⟩ := rat.same p1
        refine ⟨ra, _, rfl, SqT.of h1, rfl, _, _, rfl, _, _, rfl, rfl, rfl, ?_⟩
        refine ⟨_, rfl, ga, R.1, rfl, hga, R.1.guild, zs, rfl, p2, by unfold scanBound; omega, same_put p1 nD, SX.more zs R.1.guild, upd_same, ?_, fun g => ?_⟩
        · unfold SX.more
          split
          · omega
          · show zs.length + 1 ≤ j + 1
            omega
        · have em : g ∈ SX.more zs R.1.guild ↔ g ∈ zs ∨ R.1.guild = g := by
            unfold SX.more
            split
            · exact ⟨.inl, fun h => h.elim id fun e => by rw [← e]; assumption⟩
            · rw [List.mem_cons]
              exact ⟨fun h => h.elim (fun e => .inr e.symm) .inl, fun h => h.elim .inr fun e => .inl e.symm⟩
          rw [em, p4 g, List.take_add_one, hR]
          constructor
          · rintro (⟨S, hS, e⟩ | e)
            · exact ⟨S, List.mem_append_left _ hS, e⟩
            · exact ⟨R, List.mem_append_right _ List.mem_cons_self, e⟩
          · rintro ⟨S, hS, e⟩
            rcases List.mem_append.mp hS with z | z
            · exact .inl ⟨S, z, e⟩
            · have z' : S = R := List.mem_singleton.mp z
              rw [z'] at e
              exact .inr e
      · obtain ⟨s2, zs, e2, lzs, hz⟩ := p
        rw [List.length_map] at lzs
        rw [List.length_map, List.take_of_length_le (by omega)] at hz
        refine ⟨D, zs, rfl, e2, fun ys sl pm nsl => ?_⟩
        have s3 : Same H1 (upd H2 sl (.lst (ys.map V.str))) := s2.trans (same_upd nsl)
        have e3 : upd H2 sl (.lst (ys.map V.str)) sl = some (.lst (ys.map V.str)) := upd_same
        generalize upd H2 sl (.lst (ys.map V.str)) = H3 at s3 e3 ⊢
        have f3 := f1.then s3
        have hy : ∀ g ∈ ys, ∃ R ∈ Rs, R.1.guild = g := fun g hg => (hz g).mp (pm.mem_iff.mp hg)
        refine ⟨sl, rfl, ⟨_, SqL.of e3⟩, ?_⟩
        refine for_list (xs := ys.map V.str) (fun i σ H' => ∃ y3 y4, σ = [some (.ref d), some (.ref a), some (.ref p), y3, y4, none, none] ∧ Fw Ts H H' ∧ H' sl = some (.lst (ys.map V.str)) ∧ ∃ qs : List (Key × V), H' p = some (.dK qs) ∧ qs.length ≤ i * 100 ∧ ∀ z : Str, (valV qs (Sum.inr z)).isSome = (ys.take i).any fun g => decide (z ∈ lentOfG kvs Rs g))
          ⟨none, none, rfl, f3, e3, [], s3 _ _ e1, Nat.zero_le _, fun z => rfl⟩ (fun i σ H' _ p => ?_) (fun i x σ H4 hx p => ?_) (fun σ H4 p => ?_)
        · obtain ⟨_, _, _, _, e, _⟩ := p
          exact SqL.of e
        · obtain ⟨y3, y4, rfl, f4, es4, qs, ep4, lq, hq⟩ := p
          obtain ⟨g, hg, rfl⟩ := map_get hx
          have hi : i < ys.length := (List.getElem?_eq_some_iff.mp hg).1
          obtain ⟨R0, hR0, eg⟩ := hy g (List.mem_of_getElem? hg)
          have I4 := I.fw tH f4
          have t4 := f4.tabs
          obtain ⟨av, dg, eav, lav⟩ := I4.get (g := g) (by rw [← eg]; exact I.guild R0 hR0)
          refine ⟨_, rfl, _, rfl, d, _, rfl, dg, _, rfl, _, rfl, a, as, Rs, g, rfl, I4.rows, I4.prs, by omega, fun p2 bs H5 s5 np2 ep2 pb2 => ?_⟩
          have w1 := I.w1
          have w8 := I.w8
          have f5 := f4.then s5
          refine ⟨av, p2, dueOf kvs g, bs, ofG Rs g, rfl, ⟨SqT.of (s5 _ _ eav), by omega, by omega, SqL.of ep2, pb2, I.good.sub List.filter_sublist, fun R hR => ?_⟩, f5.tabs, fun t o l H6 f6 nt et no nl ol eo el => ?_⟩
          · rw [I.want R (List.mem_filter.mp hR).1, lav]
          have f06 := f5.trans f6
          have ep6 := f6.obj f5.tabs (s5 _ _ ep4) fun pp z => by cases z
          have es6 := f6.lst f5.tabs (s5 _ _ es4)
          have lp : l ≠ p := fun z => by
            rw [z, s5 _ _ ep4] at nl
            cases nl
          have ln : ((partRs (dueOf kvs g) (ofG Rs g)).2.1.map (·.name)).length ≤ 60 := by
            rw [List.length_map, partRs_eq]
            refine Nat.le_trans (lent_sub _ _ _).length_le ?_
            rw [List.length_map, (ord_perm _).length_eq]
            exact Nat.le_trans (List.length_filter_le _ _) few
          refine ⟨t, _, 1, .ref l, rfl, rfl, SqT.of et, rfl, l, rfl, ⟨_, SqL.of el⟩, ?_⟩
          have eln : (partRs (dueOf kvs g) (ofG Rs g)).2.1.map (·.name) = lentOfG kvs Rs g := rfl
          rw [eln] at el ln
          refine for_list (xs := (lentOfG kvs Rs g).map V.str) (fun j σ H' => ∃ y4, σ = [some (.ref d), some (.ref a), some (.ref p), some (.str g), y4, none, none] ∧ Fw Ts H H' ∧ H' sl = some (.lst (ys.map V.str)) ∧ H' l = some (.lst ((lentOfG kvs Rs g).map V.str)) ∧ ∃ qs' : List (Key × V), H' p = some (.dK qs') ∧ qs'.length ≤ i * 100 + j ∧ ∀ z : Str, (valV qs' (Sum.inr z)).isSome = ((valV qs (Sum.inr z)).isSome || decide (z ∈ (lentOfG kvs Rs g).take j)))
            ⟨_, rfl, f06, es6, el, qs, ep6, by omega, fun z => by rw [List.take_zero]; simp⟩ (fun j σ H' _ p => ?_) (fun j x σ H7 hx p => ?_) (fun σ H7 p => ?_)
          · obtain ⟨_, _, _, _, e, _⟩ := p
            exact SqL.of e
          · obtain ⟨y4, rfl, f7, es7, el7, qs', ep7, lq', hq'⟩ := p
            obtain ⟨z, hzz, rfl⟩ := map_get hx
            have hj : j < (lentOfG kvs Rs g).length := (List.getElem?_eq_some_iff.mp hzz).1
            have lR : ys.length ≤ 60 := by
              have := pm.length_eq
              omega
            refine ⟨_, rfl, _, rfl, p, _, rfl, DPut.k (k := Sum.inr z) ep7 (by rw [sizeLine_eq]; omega), _, rfl, f7.put tH np, ?_, ?_, putK qs' (Sum.inr z) (.bl true), upd_same, ?_, fun y => ?_⟩
            · rw [upd_ne (fun h => by rw [h, ep7] at es7; cases es7)]
              exact es7
            · rw [upd_ne lp]
              exact el7
            · have := length_putK qs' (Sum.inr z) (.bl true)
              omega
            · rw [valV_put, List.take_add_one, hzz]
              by_cases e : y = z
              · subst e
                rw [if_pos rfl]
                simp
              · rw [if_neg fun h => e (Sum.inr.inj h), hq' y]
                simp [e]
          · obtain ⟨y4, rfl, f7, es7, el7, qs', ep7, lq', hq'⟩ := p
            rw [List.length_map] at lq' hq'
            refine ⟨_, _, rfl, f7, es7, qs', ep7, by omega, fun z => ?_⟩
            rw [hq' z, List.take_of_length_le (Nat.le_refl _), hq z, List.take_add_one, hg, List.any_append]
            simp
        · obtain ⟨y3, y4, rfl, f4, es4, qs, ep4, lq, hq⟩ := p
          refine ⟨rfl, f4, qs, ep4, fun z => ?_⟩
          rw [hq z, List.length_map, List.take_of_length_le (Nat.le_refl _), Bool.eq_iff_iff, List.any_eq_true]
          unfold lentIn
          rw [List.any_eq_true]
          constructor
          · rintro ⟨g, hg, e⟩
            obtain ⟨R, hR, rfl⟩ := hy g hg
            exact ⟨R, hR, e⟩
          · rintro ⟨R, hR, e⟩
            exact ⟨R.1.guild, pm.mem_iff.mpr ((hz _).mpr ⟨R, hR, rfl⟩), e⟩
    obtain ⟨h2, f, qs, h3, h4⟩ := hm
    exact ⟨_, h2, q p H' qs f np h3 h4⟩
theorem ok_may {f fU fL fO fW fR fI fA fK f1 f2 : Addr} {fd fdU fdL fdO fdW fdR fdI fdA fdK fd1 fd2 : FuncData} {k : Nat} {Ts : List Addr} (F : Fun K "may_take" "may_take" s_scMay f fd)
    (GU : FnOk P w K mg base CX0 k fU fdU ["gang"] spGOf) (mU : mg "guild_of" = some (.ref fU)) (kU : PySem.W.keepIn K (.ref fU) = true) (bU : L2.Binds K fdU ["gang"] [])
    (GL : FnOk P w K mg base CX0 k fL fdL ["dues", "rows"] (spLent K Ts)) (mL : mg "lent_among" = some (.ref fL)) (kL : PySem.W.keepIn K (.ref fL) = true) (bL : L2.Binds K fdL ["dues", "rows"] [])
    (GO : FnOk P w K mg base CX0 k fO fdO ["due", "rows", "gang"] (spOwed K Ts)) (mO : mg "owed" = some (.ref fO)) (kO : PySem.W.keepIn K (.ref fO) = true) (bO : L2.Binds K fdO ["due", "rows", "gang"] [])
    (GW : FnOk P w K mg base CX0 k fW fdW ["due", "rows", "gang"] (spOwnW K Ts)) (mW : mg "own_with" = some (.ref fW)) (kW : PySem.W.keepIn K (.ref fW) = true) (bW : L2.Binds K fdW ["due", "rows", "gang"] [])
    (GR : FnOk P w K mg base CX0 k fR fdR ["rows", "guild"] (spLGuild K)) (mR : mg "rows_of_guild" = some (.ref fR)) (kR : PySem.W.keepIn K (.ref fR) = true) (bR : L2.Binds K fdR ["rows", "guild"] [])
    (GI : FnOk P w K mg base CX0 k fI fdI ["rows"] (spInOrd K)) (mI : mg "in_order" = some (.ref fI)) (kI : PySem.W.keepIn K (.ref fI) = true) (bI : L2.Binds K fdI ["rows"] [])
    (GA : FnOk P w K mg base CX0 k fA fdA ["gang"] spGName) (mA : mg "name_of" = some (.ref fA)) (kA : PySem.W.keepIn K (.ref fA) = true) (bA : L2.Binds K fdA ["gang"] [])
    (GK : FnOk P w K mg base CX0 k fK fdK ["gang"] spRank) (mK : mg "rank_of" = some (.ref fK)) (kK : PySem.W.keepIn K (.ref fK) = true) (bK : L2.Binds K fdK ["gang"] [])
    (G1 : FnOk P w K mg base CX0 k f1 fd1 ["lesser", "is_lent", "is_own_with"] (spGr gIn)) (m1 : mg "ground_in_guild" = some (.ref f1)) (k1 : PySem.W.keepIn K (.ref f1) = true) (b1 : L2.Binds K fd1 ["lesser", "is_lent", "is_own_with"] [])
    (G2 : FnOk P w K mg base CX0 k f2 fd2 ["lesser", "is_lent", "is_owed"] (spGr gBey)) (m2 : mg "ground_beyond_guild" = some (.ref f2)) (k2 : PySem.W.keepIn K (.ref f2) = true) (b2 : L2.Binds K fd2 ["lesser", "is_lent", "is_owed"] []) :
    FnOk P w K mg base CX0 (k + 1) f fd ["dues", "rows", "names", "gang"] (spMay K Ts) := by
  refine F.ok scMay (fun vs H Q E h => ?_) (fun cdv A outer s H vs Q E hr h => ?_)
  · obtain ⟨d, a, n, g, wr, kvs, as, Rs, ns, G, rfl, _⟩ := h
    rfl
  · obtain ⟨d, a, n, g, wr, kvs, as, Rs, ns, G, rfl, I, hn, hg, fG, wG, gG, no, tH, q⟩ := h
    have la : as.length = Rs.length := I.prs.length
    have few := I.few
    have w1 := I.w1
    have w8 := I.w8
    have lof : (ofG Rs G.guild).length ≤ 60 := Nat.le_trans (List.length_filter_le _ _) few
    have gof : Good2 (ofG Rs G.guild) := I.good.sub List.filter_sublist
    have nof : ∀ R ∈ ofG Rs G.guild, R.1.name ≠ G.name := fun R hR => no R (List.mem_filter.mp hR).1
    refine ⟨_, (pss_cons (ps_set (i := 4) scMay.nd rfl (.inl rfl) (pe_call GU hr (by rfl) mU kU bU .nil pass0 (pa_cons (pv 3) pa_nil)))
      (pss_cons (ps_set (i := 5) scMay.nd rfl (.inl rfl) (pe_call GL hr (by rfl) mL kL bL .nil pass0 (pa_cons (pv 0) (pa_cons (pv 1) pa_nil))))
      (pss_cons (ps_set (i := 6) scMay.nd rfl (.inl rfl) (pe_call GO hr (by rfl) mO kO bO .nil pass0 (pa_cons (pe_dget (hu_of hr) (pv 0) (pv 4) (fun _ _ => rfl)) (pa_cons (pe_call GR hr (by rfl) mR kR bR .nil pass0 (pa_cons (pv 1) (pa_cons (pv 4) pa_nil))) (pa_cons (pv 3) pa_nil)))))
      (pss_cons (ps_set (i := 7) scMay.nd rfl (.inl rfl) (pe_call GW hr (by rfl) mW kW bW .nil pass0 (pa_cons (pe_dget (hu_of hr) (pv 0) (pv 4) (fun _ _ => rfl)) (pa_cons (pe_call GR hr (by rfl) mR kR bR .nil pass0 (pa_cons (pv 1) (pa_cons (pv 4) pa_nil))) (pa_cons (pv 3) pa_nil)))))
      (pss_cons (ps_set (i := 8) scMay.nd rfl (.inl rfl) (pe_lst pa_nil))
      (C8.pss_cut (ps_for PassesOwn.never rfl (pi_list (pe_revL (pe_call GI hr (by rfl) mI kI bI .nil pass0 (pa_cons (pv 1) pa_nil)))) (pg_name (i := 9) scMay.nd rfl (.inl rfl))
        (pss_cons (ps_set (i := 10) scMay.nd rfl (.inl rfl) (pe_call GA hr (by rfl) mA kA bA .nil pass0 (pa_cons (pv 9) pa_nil)))
        (pss_cons (ps_set (i := 11) scMay.nd rfl (.inl rfl) (pe_cmpR op_lt (pe_call GK hr (by rfl) mK kK bK .nil pass0 (pa_cons (pv 9) pa_nil)) (pe_call GK hr (by rfl) mK kK bK .nil pass0 (pa_cons (pv 3) pa_nil)) (nomark _)))
        (C8.pss_cut (ps_if (pt_cmpR op_eq (pe_call GU hr (by rfl) mU kU bU .nil pass0 (pa_cons (pv 9) pa_nil)) (pv 4) (nomark _))
          (pss_one (ps_set (i := 12) scMay.nd rfl (.inl rfl) (pe_call G1 hr (by rfl) m1 k1 b1 .nil pass0 (pa_cons (pv 11) (pa_cons (pe_cmp (pc_din (hu_of hr) (pv 10) (pv 5))) (pa_cons (pv 7) pa_nil))))))
          (pss_one (ps_set (i := 12) scMay.nd rfl (.inl rfl) (pe_call G2 hr (by rfl) m2 k2 b2 .nil pass0 (pa_cons (pv 11) (pa_cons (pe_cmp (pc_din (hu_of hr) (pv 10) (pv 5))) (pa_cons (pv 6) pa_nil)))))))
        (pss_one (ps_if (PW.pt (pw_and (pt_cmpR op_in_seq (pv 10) (pv 2) (by rfl)) (pw_and1 (pt_cmpR op_notN (pv 12) pe_non (nomark _)))))
          (pss_one (ps_expr (pe_bm PySem.F.plainAttrs_list PySem.F.slot_list_append PySem.F.type_list_append mt_append (pv 8) (pa_cons (pe_tup (pa_cons (pv 10) (pa_cons (pv 12) pa_nil))) pa_nil))))
          pss_nil))))))
      (pss_one (ps_ret (pv 8))))))))), ?_⟩
    refine ⟨_, rfl, g, G, rfl, hg, ?_⟩
    refine ⟨_, rfl, _, rfl, d, a, wr, kvs, as, Rs, rfl, I, tH, fun p H1 qs f1 np ep hq => ?_⟩
    have I1 := I.fw tH f1
    have t1 := f1.tabs
    obtain ⟨av, dg, eav, lav⟩ := I1.get gG
    have wof : ∀ R ∈ ofG Rs G.guild, R.1.want.length = (dueOf kvs G.guild).length := fun R hR => by rw [I.want R (List.mem_filter.mp hR).1, lav]
    have wG' : G.want.length = (dueOf kvs G.guild).length := by rw [wG, lav]
    refine ⟨_, rfl, _, rfl, d, _, rfl, dg, _, rfl, _, rfl, a, as, Rs, G.guild, rfl, I1.rows, I1.prs, by omega, fun p2 bs2 H2 s2 np2 ep2 pb2 => ?_⟩
    have f2 := f1.then s2
    refine ⟨_, rfl, av, p2, g, dueOf kvs G.guild, bs2, ofG Rs G.guild, G, rfl, ⟨SqT.of (s2 _ _ eav), by omega, by omega, SqL.of ep2, pb2, gof, wof⟩, ⟨hg.kt (f2.kt tH), fG, wG'⟩, f2.tabs, fun H3 f3 => ?_⟩
    have f13 := (Fw.same t1 s2).trans f3
    have f03 := f1.trans f13
    have I3 := I.fw tH f03
    obtain ⟨av3, dg3, eav3, lav3⟩ := I3.get gG
    refine ⟨_, rfl, _, rfl, d, _, rfl, dg3, _, rfl, _, rfl, a, as, Rs, G.guild, rfl, I3.rows, I3.prs, by omega, fun p4 bs4 H4 s4 np4 ep4 pb4 => ?_⟩
    have f4 := f03.then s4
    refine ⟨_, rfl, av3, p4, g, dueOf kvs G.guild, bs4, ofG Rs G.guild, G, rfl, ⟨SqT.of (s4 _ _ eav3), by omega, by omega, SqL.of ep4, pb4, gof, wof⟩, ⟨hg.kt (f4.kt tH), fG, wG'⟩, by omega, nof, f4.tabs, fun H5 f5 => ?_⟩
    have f15 := (f13.then s4).trans f5
    have f05 := f4.trans f5
    have I5 := I.fw tH f05
    have ep5 := f15.obj t1 ep fun pp z => by cases z
    have hg5 := hg.kt (f05.kt tH)
    have hn5 := f05.seqL tH hn
    refine ⟨by show 0 ≤ sizeLine; decide, fun lp nlp => ?_⟩
    have s6 : Same H5 (upd H5 lp (.lst [])) := same_upd nlp
    have e6 : upd H5 lp (.lst []) lp = some (.lst []) := upd_same
    generalize upd H5 lp (.lst []) = H6 at s6 e6 ⊢
    refine ⟨fun σ H' => σ[8]? = some (some (.ref lp)) ∧ Same H5 H' ∧ ∃ ts : List Addr, H' lp = some (.lst (ts.map V.ref)) ∧ Paired (TelAt H') ts (mayL kvs Rs ns G), ?_, fun σ H' hm => ?_⟩
    · refine ⟨_, rfl, a, as, Rs, rfl, s6.seq I5.rows, I5.prs.mono fun _ _ x => x.same s6, by omega, fun po H7 bs s7 npo epo pbs => ⟨po, _, rfl, SqL.of epo, fun rv nrv => ?_⟩⟩
      rw [← List.map_reverse]
      have pr7 := paired_rev pbs
      have lbs : bs.length = Rs.length := by rw [pbs.length, List.length_map, (ord_perm Rs).length_eq]
      have s8 : Same H5 (upd H7 rv (.lst (bs.reverse.map V.ref))) := (s6.trans s7).trans (same_upd nrv)
      have e8 : upd H7 rv (.lst (bs.reverse.map V.ref)) rv = some (.lst (bs.reverse.map V.ref)) := upd_same
      have l8 : upd H7 rv (.lst (bs.reverse.map V.ref)) lp = some (.lst []) := same_upd nrv _ _ (s7 _ _ e6)
      have pr8 : Paired (GangAt (upd H7 rv (.lst (bs.reverse.map V.ref)))) bs.reverse ((ord Rs).map (·.1)).reverse := pr7.mono fun _ _ x => x.same (same_upd nrv)
      have n5 : rv ≠ lp := fun z => by
        rw [z, s7 _ _ e6] at nrv
        cases nrv
      generalize upd H7 rv (.lst (bs.reverse.map V.ref)) = H8 at s8 e8 l8 pr8 ⊢
      refine ⟨rv, rfl, ⟨_, SqL.of e8⟩, ?_⟩
      refine for_list (xs := bs.reverse.map V.ref) (fun i σ H' => ∃ y9 y10 y11 y12, σ = [some (.ref d), some (.ref a), some (.ref n), some (.ref g), some (.str G.guild), some (.ref p), some (.bl (owedB (dueOf kvs G.guild) (ofG Rs G.guild) G)), some (.bl (ownB (dueOf kvs G.guild) (ofG Rs G.guild) G)), some (.ref lp), y9, y10, y11, y12] ∧ Same H5 H' ∧ KTu H8 H' ∧ H' rv = some (.lst (bs.reverse.map V.ref)) ∧ ∃ ts : List Addr, H' lp = some (.lst (ts.map V.ref)) ∧ ts.length ≤ i ∧ Paired (TelAt H') ts ((((ord Rs).map (·.1)).reverse.take i).flatMap (pairOf kvs Rs ns G)))
        ⟨none, none, none, none, rfl, s8, fun _ _ h => h, e8, [], l8, Nat.le_refl _, .nil⟩ (fun i σ H' _ p => ?_) (fun i x σ H9 hx p => ?_) (fun σ H9 p => ?_)
      · obtain ⟨_, _, _, _, _, _, _, e, _⟩ := p
        exact SqL.of e
      · obtain ⟨y9, y10, y11, y12, rfl, q1, q2, q3, ts, q4, q5, q6⟩ := p
        obtain ⟨o, ho, rfl⟩ := map_get hx
        have hi : i < bs.reverse.length := (List.getElem?_eq_some_iff.mp ho).1
        rw [List.length_reverse] at hi
        obtain ⟨O, hO, oat⟩ := paired_get pr8 ho
        have o9 : GangAt H9 o O := oat.kt q2
        have g9 : GangAt H9 g G := hg5.same q1
        have p9 := q1 _ _ ep5
        have tk : (((ord Rs).map (·.1)).reverse.take (i + 1)).flatMap (pairOf kvs Rs ns G) = (((ord Rs).map (·.1)).reverse.take i).flatMap (pairOf kvs Rs ns G) ++ pairOf kvs Rs ns G O := by
          rw [List.take_add_one, hO, List.flatMap_append]
          simp
        refine ⟨_, rfl, o, O, rfl, o9, _, rfl, o, O, rfl, o9, _, rfl, g, G, rfl, g9, _, _, rfl, rfl, ?_⟩
        refine ⟨fun σ H' => σ = [some (.ref d), some (.ref a), some (.ref n), some (.ref g), some (.str G.guild), some (.ref p), some (.bl (owedB (dueOf kvs G.guild) (ofG Rs G.guild) G)), some (.bl (ownB (dueOf kvs G.guild) (ofG Rs G.guild) G)), some (.ref lp), some (.ref o), some (.str O.name), some (.bl (decide (O.rank < G.rank))), some (oV (groundOf kvs Rs G O))] ∧ H' = H9, ?_, fun σ Ha hm => ?_⟩
        · refine ⟨_, rfl, o, O, rfl, o9, _, rfl, rfl, _, rfl, ite2 (fun e => ?_) (fun e => ?_)⟩
          · have e' : O.guild = G.guild := by
              have h := of_decide_eq_true e
              injection h
            refine ⟨_, rfl, _, rfl, _, rfl, p, _, rfl, DGet.k (k := Sum.inr O.name) p9, _, rfl, _, _, _, rfl, ?_, rfl⟩
            rw [hq]
            unfold groundOf
            rw [if_pos e']
            rfl
          · have e' : ¬ O.guild = G.guild := fun h => e (decide_eq_true (congrArg V.str h))
            refine ⟨_, rfl, _, rfl, _, rfl, p, _, rfl, DGet.k (k := Sum.inr O.name) p9, _, rfl, _, _, _, rfl, ?_, rfl⟩
            rw [hq]
            unfold groundOf
            rw [if_neg e']
            rfl
        obtain ⟨rfl, rfl⟩ := hm
        have nomore : pairOf kvs Rs ns G O = [] → ∃ y9 y10 y11 y12, [some (.ref d), some (.ref a), some (.ref n), some (.ref g), some (.str G.guild), some (.ref p), some (.bl (owedB (dueOf kvs G.guild) (ofG Rs G.guild) G)), some (.bl (ownB (dueOf kvs G.guild) (ofG Rs G.guild) G)), some (.ref lp), some (.ref o), some (.str O.name), some (.bl (decide (O.rank < G.rank))), some (oV (groundOf kvs Rs G O))] = [some (.ref d), some (.ref a), some (.ref n), some (.ref g), some (.str G.guild), some (.ref p), some (.bl (owedB (dueOf kvs G.guild) (ofG Rs G.guild) G)), some (.bl (ownB (dueOf kvs G.guild) (ofG Rs G.guild) G)), some (.ref lp), y9, y10, y11, y12] ∧ Same H5 Ha ∧ KTu H8 Ha ∧ Ha rv = some (.lst (bs.reverse.map V.ref)) ∧ ∃ ts : List Addr, Ha lp = some (.lst (ts.map V.ref)) ∧ ts.length ≤ i + 1 ∧ Paired (TelAt Ha) ts ((((ord Rs).map (·.1)).reverse.take (i + 1)).flatMap (pairOf kvs Rs ns G)) := fun e => by
          rw [tk, e, List.append_nil]
          exact ⟨_, _, _, _, rfl, q1, q2, q3, ts, q4, by omega, q6⟩
        refine ⟨_, rfl, _, rfl, n, _, rfl, .inl (q1.seq hn5), rfl, flat_strs _, _, rfl, ite2 (fun e => ?_) (fun e => ?_)⟩
        · replace e : inV (.str O.name) (ns.map V.str) = true := e
          rw [inV_strs] at e
          have e' := of_decide_eq_true e
          cases hgr : groundOf kvs Rs G O with
          | none =>
            refine ⟨_, rfl, rfl, _, rfl, ?_⟩
            refine iteF ?_
            have := nomore (by unfold pairOf; rw [hgr])
            rw [hgr] at this
            exact this
          | some z =>
            have pz : pairOf kvs Rs ns G O = [(O.name, z)] := by
              unfold pairOf
              rw [hgr]
              exact if_pos e'
            refine ⟨_, rfl, rfl, _, rfl, ?_⟩
            refine iteT ⟨_, rfl, .inl ⟨rfl, _, SqL.of q4⟩, _, rfl, _, rfl, by show 2 ≤ sizeLine; decide, fun t nt => ?_⟩
            have st : Same Ha (upd Ha t (.tup [.str O.name, oV (some z)])) := same_upd nt
            have et : upd Ha t (.tup [.str O.name, oV (some z)]) t = some (.tup [.str O.name, .str z]) := upd_same
            generalize upd Ha t (.tup [.str O.name, oV (some z)]) = Hb at st et ⊢
            have q4b := st _ _ q4
            refine ⟨lp, _, _, rfl, rfl, q4b, ?_, ?_⟩
            · rw [List.length_map]
              exact small63 (by omega)
            have kp : KTu Hb (upd Hb lp (.lst (ts.map V.ref ++ [V.ref t]))) := kt_put q4b (fun xs z => by cases z)
            refine ⟨_, _, _, _, rfl, same_put (q1.trans st) nlp, fun x xs h => kp _ _ (st _ _ (q2 _ _ h)), ?_, ts ++ [t], ?_, ?_, ?_⟩
            · rw [upd_ne n5]
              exact st _ _ q3
            · rw [upd_same, List.map_append]
              rfl
            · rw [List.length_append]
              show ts.length + 1 ≤ i + 1
              omega
            · rw [tk, pz]
              exact Paired.snoc (q6.mono fun _ _ x => (x.kt (Same.kt st)).kt kp) (TelAt.kt kp et)
        · replace e : ¬ inV (.str O.name) (ns.map V.str) = true := e
          rw [inV_strs] at e
          have e' : O.name ∉ ns := fun h => e (decide_eq_true h)
          refine iteF (nomore ?_)
          unfold pairOf
          split
          · exact if_neg e'
          · rfl
      · obtain ⟨y9, y10, y11, y12, rfl, q1, q2, q3, ts, q4, q5, q6⟩ := p
        rw [List.length_map, List.take_of_length_le (by rw [List.length_reverse, List.length_reverse, List.length_map, (ord_perm Rs).length_eq]; omega)] at q6
        exact ⟨rfl, q1, ts, q4, q6⟩
    obtain ⟨h8, s9, ts, e9, p9⟩ := hm
    exact ⟨_, h8, q lp H' ts (f05.then s9) (f05.free tH nlp) e9 p9⟩
end
end My

namespace My
open PySem PySem.Spec PyProof.Rows L2 GX GxR
abbrev s_scSame : Stmt := topS 30
abbrev n_scSame : List Str := ["_law_found", "_law_due_here", "_law_one", "_law_other"]
theorem scSame : FnScope n_scSame ["_law_found", "_law_due_here"] (defScope s_scSame) := ⟨rfl, rfl, rfl, by decide +kernel, rfl, by decide +kernel, by decide +kernel⟩
section
variable {P : Program} {w : World} {K : PySem.W.Frag} {mg : Str → Option Value} {base : Heap}
theorem ok_same0 {f : Addr} {fd : FuncData} {k : Nat} (F : Fun K "_law_same" "_law_same" s_scSame f fd) (T : Txt mg) : FnOk P w K mg base CX0 (k + 1) f fd ["_law_found", "_law_due_here"] (spSame 0) := by
  refine F.ok scSame (fun vs H Q E h => ?_) (fun cdv A outer s H vs Q E hr h => ?_)
  · obtain ⟨x, y, rfl, _⟩ := h
    rfl
  · obtain ⟨x, y, rfl, h, q⟩ := h
    refine ⟨_, (pss_cons (ps_if (pt_val (pe_isT T (by rfl) (by rfl) (by rfl) (pv 1)))
        (pss_cons ps_never (pss_one ps_never))
        pss_nil)
      (pss_cons (ps_if (pt_val (pe_isi T (by rfl) (by rfl) T.str bt_str (pv 1)))
        (pss_one (ps_ret (pe_and (pe_isi T (by rfl) (by rfl) T.str bt_str (pv 0)) (pe_one (pe_cmpR op_eq (pv 0) (pv 1) (nomark _))))))
        pss_nil)
      (pss_one (ps_ret (pe_and (pe_isi T (by rfl) (by rfl) T.int bt_int (pv 0)) (pe_and (pe_cmpR op_eq (pe_isi T (by rfl) (by rfl) T.bool bt_bool (pv 0)) (pe_isi T (by rfl) (by rfl) T.bool bt_bool (pv 1)) (nomark _)) (pe_one (pe_cmpR op_eq (pv 0) (pv 1) (nomark _))))))))), ?_⟩
    rcases h with ⟨b, rfl, rfl⟩ | ⟨b, rfl, rfl⟩ | ⟨b, rfl, rfl⟩
    · have tx : ∀ H, TyX K H (.bl b) (.type "bool") := fun H => .base (.bl b)
      refine ⟨_, rfl, (by show 2 ≤ sizeLine; decide), fun tp ntp => ⟨_, tp, _, _, _, _, rfl, upd_same, pairT, tx _, kany kB3 kB4, false, rfl, iteF ?_⟩⟩
      refine ⟨_, rfl, _, _, _, _, _, rfl, .ty _, tx _, kit_ty (r := false) (by decide +kernel), false, rfl, iteF ?_⟩
      refine ⟨_, rfl, _, _, _, _, _, rfl, .ty _, tx _, kit_ty (r := true) (by decide +kernel), true, rfl, iteT ?_⟩
      refine ⟨_, rfl, _, _, _, _, _, rfl, .ty _, tx _, kit_ty (r := true) (by decide +kernel), _, rfl, _, _, _, _, _, rfl, .ty _, tx _, kit_ty (r := true) (by decide +kernel), rfl, true, rfl, iteT ?_⟩
      refine ⟨_, rfl, _, rfl, rfl, ?_⟩
      rw [decide_eq_true rfl]
      exact q _ (same_upd ntp)
    · have tx : ∀ H, TyX K H (.int b) (.type "int") := fun H => .base (.int b)
      refine ⟨_, rfl, (by show 2 ≤ sizeLine; decide), fun tp ntp => ⟨_, tp, _, _, _, _, rfl, upd_same, pairT, tx _, kany kB1 kB2, false, rfl, iteF ?_⟩⟩
      refine ⟨_, rfl, _, _, _, _, _, rfl, .ty _, tx _, kit_ty (r := false) (by decide +kernel), false, rfl, iteF ?_⟩
      refine ⟨_, rfl, _, _, _, _, _, rfl, .ty _, tx _, kit_ty (r := true) (by decide +kernel), true, rfl, iteT ?_⟩
      refine ⟨_, rfl, _, _, _, _, _, rfl, .ty _, tx _, kit_ty (r := false) (by decide +kernel), _, rfl, _, _, _, _, _, rfl, .ty _, tx _, kit_ty (r := false) (by decide +kernel), rfl, true, rfl, iteT ?_⟩
      refine ⟨_, rfl, _, rfl, rfl, ?_⟩
      rw [decide_eq_true rfl]
      exact q _ (same_upd ntp)
    · have tx : ∀ H, TyX K H (.str b) (.type "str") := fun H => .base (.str b)
      refine ⟨_, rfl, (by show 2 ≤ sizeLine; decide), fun tp ntp => ⟨_, tp, _, _, _, _, rfl, upd_same, pairT, tx _, kany kB5 kB6, false, rfl, iteF ?_⟩⟩
      refine ⟨_, rfl, _, _, _, _, _, rfl, .ty _, tx _, kit_ty (r := true) (by decide +kernel), true, rfl, iteT ?_⟩
      refine ⟨_, rfl, _, _, _, _, _, rfl, .ty _, tx _, kit_ty (r := true) (by decide +kernel), true, rfl, iteT ?_⟩
      refine ⟨_, rfl, _, rfl, rfl, ?_⟩
      rw [decide_eq_true rfl]
      exact q _ (same_upd ntp)
theorem ok_sameS {f : Addr} {fd : FuncData} {n k : Nat} (F : Fun K "_law_same" "_law_same" s_scSame f fd) (T : Txt mg) (mgA : mg "_law_same" = some (.ref f)) (bA : Binds K fd ["_law_found", "_law_due_here"] [])
    (G : FnOk P w K mg base CX0 (k + 1) f fd ["_law_found", "_law_due_here"] (spSame n)) : FnOk P w K mg base CX0 (k + 1 + 1) f fd ["_law_found", "_law_due_here"] (spSame (n + 1)) := by
  have G0 : FnOk P w K mg base CX0 (k + 1 + 1) f fd ["_law_found", "_law_due_here"] (spSame 0) := ok_same0 F T
  refine F.ok scSame (fun vs H Q E h => ?_) (fun cdv A outer s H vs Q E hr h => ?_)
  · obtain ⟨x, y, rfl, _⟩ := h
    rfl
  · obtain ⟨x, y, rfl, h, q⟩ := h
    refine ⟨_, (pss_cons (ps_if (pt_val (pe_isT T (by rfl) (by rfl) (by rfl) (pv 1)))
        (pss_cons (ps_if (PW.pt (pw_or (pt_not (pt_val (pe_isT T (by rfl) (by rfl) (by rfl) (pv 0)))) (pw_or1 (pt_cmpR op_ne (pe_isi T (by rfl) (by rfl) T.lst bt_list (pv 0)) (pe_isi T (by rfl) (by rfl) T.lst bt_list (pv 1)) (nomark _)))))
          (pss_one (ps_ret pe_bl))
          pss_nil)
        (pss_one (ps_ret (pe_and (pe_cmpR op_eq (pe_callB call_len_seq (by rfl) T.len PySem.boot_len (pa_cons (pv 0) pa_nil)) (pe_callB call_len_seq (by rfl) T.len PySem.boot_len (pa_cons (pv 1) pa_nil)) (nomark _)) (pe_one (pe_callB (cr_all rfl) (by rfl) T.all (by decide +kernel) (pa_cons (pe_lc (own := [("_law_one", 2), ("_law_other", 3)]) (g := (gTup K 2 (gCons (gName 2) (gCons (gName 3) gNil)))) (tt := tYes) rfl scSame.nd (RZ.pi_zipA (by rfl) T.zip (pa_cons (pv 0) (pa_cons (pv 1) pa_nil))) (blkOk_by (own := [("_law_one", 2), ("_law_other", 3)]) (N := n_scSame) (sc := defScope s_scSame) (by decide +kernel)) (fun _ _ _ _ _ => (pg_tup rfl (pgs_cons (pg_name (i := 2) scSame.nd rfl (.inl rfl)) (pgs_cons (pg_name (i := 3) scSame.nd rfl (.inl rfl)) pgs_nil)))) (fun _ _ _ _ _ => pts_nil) (fun _ _ _ _ _ => (pe_call G hr (by rfl) mgA F.kp bA .nil pass0 (pa_cons (pv 2) (pa_cons (pv 3) pa_nil))))) pa_nil)))))))
        pss_nil)
      (pss_cons (ps_if (pt_val (pe_isi T (by rfl) (by rfl) T.str bt_str (pv 1)))
        (pss_one (ps_ret (pe_and (pe_isi T (by rfl) (by rfl) T.str bt_str (pv 0)) (pe_one (pe_cmpR op_eq (pv 0) (pv 1) (nomark _))))))
        pss_nil)
      (pss_one (ps_ret (pe_and (pe_isi T (by rfl) (by rfl) T.int bt_int (pv 0)) (pe_and (pe_cmpR op_eq (pe_isi T (by rfl) (by rfl) T.bool bt_bool (pv 0)) (pe_isi T (by rfl) (by rfl) T.bool bt_bool (pv 1)) (nomark _)) (pe_one (pe_cmpR op_eq (pv 0) (pv 1) (nomark _))))))))), ?_⟩
    rcases h with h | ⟨a, b, xs, ys, rfl, rfl, h, hl, hl2, hk⟩
    · rcases h with ⟨b, rfl, rfl⟩ | ⟨b, rfl, rfl⟩ | ⟨b, rfl, rfl⟩
      · have tx : ∀ H, TyX K H (.bl b) (.type "bool") := fun H => .base (.bl b)
        refine ⟨_, rfl, (by show 2 ≤ sizeLine; decide), fun tp ntp => ⟨_, tp, _, _, _, _, rfl, upd_same, pairT, tx _, kany kB3 kB4, false, rfl, iteF ?_⟩⟩
        refine ⟨_, rfl, _, _, _, _, _, rfl, .ty _, tx _, kit_ty (r := false) (by decide +kernel), false, rfl, iteF ?_⟩
        refine ⟨_, rfl, _, _, _, _, _, rfl, .ty _, tx _, kit_ty (r := true) (by decide +kernel), true, rfl, iteT ?_⟩
        refine ⟨_, rfl, _, _, _, _, _, rfl, .ty _, tx _, kit_ty (r := true) (by decide +kernel), _, rfl, _, _, _, _, _, rfl, .ty _, tx _, kit_ty (r := true) (by decide +kernel), rfl, true, rfl, iteT ?_⟩
        refine ⟨_, rfl, _, rfl, rfl, ?_⟩
        rw [decide_eq_true rfl]
        exact q _ (same_upd ntp)
      · have tx : ∀ H, TyX K H (.int b) (.type "int") := fun H => .base (.int b)
        refine ⟨_, rfl, (by show 2 ≤ sizeLine; decide), fun tp ntp => ⟨_, tp, _, _, _, _, rfl, upd_same, pairT, tx _, kany kB1 kB2, false, rfl, iteF ?_⟩⟩
        refine ⟨_, rfl, _, _, _, _, _, rfl, .ty _, tx _, kit_ty (r := false) (by decide +kernel), false, rfl, iteF ?_⟩
        refine ⟨_, rfl, _, _, _, _, _, rfl, .ty _, tx _, kit_ty (r := true) (by decide +kernel), true, rfl, iteT ?_⟩
        refine ⟨_, rfl, _, _, _, _, _, rfl, .ty _, tx _, kit_ty (r := false) (by decide +kernel), _, rfl, _, _, _, _, _, rfl, .ty _, tx _, kit_ty (r := false) (by decide +kernel), rfl, true, rfl, iteT ?_⟩
        refine ⟨_, rfl, _, rfl, rfl, ?_⟩
        rw [decide_eq_true rfl]
        exact q _ (same_upd ntp)
      · have tx : ∀ H, TyX K H (.str b) (.type "str") := fun H => .base (.str b)
        refine ⟨_, rfl, (by show 2 ≤ sizeLine; decide), fun tp ntp => ⟨_, tp, _, _, _, _, rfl, upd_same, pairT, tx _, kany kB5 kB6, false, rfl, iteF ?_⟩⟩
        refine ⟨_, rfl, _, _, _, _, _, rfl, .ty _, tx _, kit_ty (r := true) (by decide +kernel), true, rfl, iteT ?_⟩
        refine ⟨_, rfl, _, _, _, _, _, rfl, .ty _, tx _, kit_ty (r := true) (by decide +kernel), true, rfl, iteT ?_⟩
        refine ⟨_, rfl, _, rfl, rfl, ?_⟩
        rw [decide_eq_true rfl]
        exact q _ (same_upd ntp)
    rcases h with ⟨h1, h2⟩ | ⟨h1, h2⟩
    · have sq : ∀ {H' : Hp} {p : Addr} {zs : List V}, H' p = some (.lst zs) → SqL K H' p zs := fun h => SqL.of h
      have ta : ∀ {H' : Hp}, Same H H' → TyX K H' (.ref a) (.type "list") := fun e => .base (.lst (e _ _ h1))
      have tb : ∀ {H' : Hp}, Same H H' → TyX K H' (.ref b) (.type "list") := fun e => .base (.lst (e _ _ h2))
      refine ⟨_, rfl, (by show 2 ≤ sizeLine; decide), fun tp ntp => ⟨_, tp, _, _, _, _, rfl, upd_same, pairT, tb (same_upd ntp), kany kB9 kB10, true, rfl, iteT ?_⟩⟩
      have s1 : Same H (upd H tp (.tup [V.ty "list", V.ty "tuple"])) := same_upd ntp
      refine ⟨_, rfl, (by show 2 ≤ sizeLine; decide), fun tp2 ntp2 => ⟨_, tp2, _, _, _, _, rfl, upd_same, pairT, ta (s1.trans (same_upd ntp2)), kany kB9 kB10, true, rfl, iteF ?_⟩⟩
      have s2 := s1.trans (same_upd (o := .tup [V.ty "list", V.ty "tuple"]) ntp2)
      refine ⟨_, rfl, _, _, _, _, _, rfl, .ty _, ta s2, kit_ty (r := true) (by decide +kernel), _, rfl, _, _, _, _, _, rfl, .ty _, tb s2, kit_ty (r := true) (by decide +kernel), rfl, false, rfl, iteF ?_⟩
      refine ⟨_, rfl, a, xs, rfl, .inl (sq (s2 _ _ h1)), _, rfl, b, ys, rfl, .inl (sq (s2 _ _ h2)), rfl, true, congrArg V.bl (decide_eq_true (by rw [hl])), iteT ?_⟩
      refine ⟨_, rfl, _, rfl, a, b, xs, ys, rfl, .inl ⟨sq (s2 _ _ h1), sq (s2 _ _ h2), fun D nD => lc_it (walk_zip (xs := xs) (ys := ys) rfl) (fun i H' => Same H H' ∧ H' D = some (.lst ((List.replicate i true).map V.bl))) ⟨s2.trans (same_upd nD), upd_same⟩ (fun i H' _ p => ⟨sq (p.1 _ _ h1), sq (p.1 _ _ h2)⟩) (fun i v H3 H4 hi p y => ?_) (fun H3 p => ?_)⟩⟩
      · obtain ⟨T1, x1, x2, rfl, nT, rfl, g1, g2⟩ := y
        obtain ⟨p1, p2⟩ := p
        have s3 : Same H3 (upd H3 T1 (.tup [x1, x2])) := same_upd nT
        have hx := hk i x1 x2 g1 g2
        refine ⟨T1, [x1, x2], rfl, SqT.of upd_same, rfl, x1, [x2], rfl, x2, [], rfl, rfl, rfl, ?_⟩
        refine ⟨x1, rfl, x2, rfl, x1, x2, rfl, Sm.same (p1.trans s3) n x1 x2 hx, fun H5 s5 => ⟨_, s5 _ _ (s3 _ _ p2), ?_, ?_, ?_⟩⟩
        · rw [List.length_map, List.length_replicate]
          have hlt : i < 100000 := by
            have := hi
            omega
          exact Nat.lt_of_lt_of_le hlt (by decide)
        · intro z o e
          have nz : z ≠ D := ne_of_none e (s2.free nD)
          rw [upd_ne nz]
          exact s5 _ _ (s3 _ _ (p1 _ _ e))
        · rw [upd_same, List.replicate_succ', List.map_append]
          rfl
      · obtain ⟨p1, p2⟩ := p
        refine ⟨D, _, rfl, SqL.of p2, ?_⟩
        rw [show ((List.replicate (min xs.length ys.length) true).all id) = true by simp]
        exact q _ p1
    · have sq : ∀ {H' : Hp} {p : Addr} {zs : List V}, H' p = some (.tup zs) → SqT K H' p zs := fun h => SqT.of h
      have ta : ∀ {H' : Hp}, Same H H' → TyX K H' (.ref a) (.type "tuple") := fun e => .base (.tup (e _ _ h1))
      have tb : ∀ {H' : Hp}, Same H H' → TyX K H' (.ref b) (.type "tuple") := fun e => .base (.tup (e _ _ h2))
      refine ⟨_, rfl, (by show 2 ≤ sizeLine; decide), fun tp ntp => ⟨_, tp, _, _, _, _, rfl, upd_same, pairT, tb (same_upd ntp), kany kB11 kB12, true, rfl, iteT ?_⟩⟩
      have s1 : Same H (upd H tp (.tup [V.ty "list", V.ty "tuple"])) := same_upd ntp
      refine ⟨_, rfl, (by show 2 ≤ sizeLine; decide), fun tp2 ntp2 => ⟨_, tp2, _, _, _, _, rfl, upd_same, pairT, ta (s1.trans (same_upd ntp2)), kany kB11 kB12, true, rfl, iteF ?_⟩⟩
      have s2 := s1.trans (same_upd (o := .tup [V.ty "list", V.ty "tuple"]) ntp2)
      refine ⟨_, rfl, _, _, _, _, _, rfl, .ty _, ta s2, kit_ty (r := false) (by decide +kernel), _, rfl, _, _, _, _, _, rfl, .ty _, tb s2, kit_ty (r := false) (by decide +kernel), rfl, false, rfl, iteF ?_⟩
      refine ⟨_, rfl, a, xs, rfl, .inr (sq (s2 _ _ h1)), _, rfl, b, ys, rfl, .inr (sq (s2 _ _ h2)), rfl, true, congrArg V.bl (decide_eq_true (by rw [hl])), iteT ?_⟩
      refine ⟨_, rfl, _, rfl, a, b, xs, ys, rfl, .inr ⟨sq (s2 _ _ h1), sq (s2 _ _ h2), fun D nD => lc_it (walk_zipT (xs := xs) (ys := ys) rfl) (fun i H' => Same H H' ∧ H' D = some (.lst ((List.replicate i true).map V.bl))) ⟨s2.trans (same_upd nD), upd_same⟩ (fun i H' _ p => ⟨sq (p.1 _ _ h1), sq (p.1 _ _ h2)⟩) (fun i v H3 H4 hi p y => ?_) (fun H3 p => ?_)⟩⟩
      · obtain ⟨T1, x1, x2, rfl, nT, rfl, g1, g2⟩ := y
        obtain ⟨p1, p2⟩ := p
        have s3 : Same H3 (upd H3 T1 (.tup [x1, x2])) := same_upd nT
        have hx := hk i x1 x2 g1 g2
        refine ⟨T1, [x1, x2], rfl, SqT.of upd_same, rfl, x1, [x2], rfl, x2, [], rfl, rfl, rfl, ?_⟩
        refine ⟨x1, rfl, x2, rfl, x1, x2, rfl, Sm.same (p1.trans s3) n x1 x2 hx, fun H5 s5 => ⟨_, s5 _ _ (s3 _ _ p2), ?_, ?_, ?_⟩⟩
        · rw [List.length_map, List.length_replicate]
          have hlt : i < 100000 := by
            have := hi
            omega
          exact Nat.lt_of_lt_of_le hlt (by decide)
        · intro z o e
          have nz : z ≠ D := ne_of_none e (s2.free nD)
          rw [upd_ne nz]
          exact s5 _ _ (s3 _ _ (p1 _ _ e))
        · rw [upd_same, List.replicate_succ', List.map_append]
          rfl
      · obtain ⟨p1, p2⟩ := p
        refine ⟨D, _, rfl, SqL.of p2, ?_⟩
        rw [show ((List.replicate (min xs.length ys.length) true).all id) = true by simp]
        exact q _ p1
end
end My

/-! dues, rows and a gang, as the laws hand them in -/
namespace My
open PySem PySem.Spec PyProof.Rows L2 GX GxR
structure RI (K : PySem.W.Frag) (H : Hp) (d a g : Addr) (wr : Nat) (kvs : List (Str × List Int)) (as : List Addr) (Rs : List (Gang × Int)) (G : Gang) : Prop where
  dr : DR K H d a wr kvs as Rs
  dd : ∃ ps : List (Key × V), H d = some (.dK ps)
  la : H a = some (.lst (as.map V.ref))
  l12 : kvs.length ≤ 12
  at_ : GangAt H g G
  fit : Fit (G, 0)
  wl : G.want.length = wr
  gg : G.guild ∈ kvs.map (·.1)
  no : ∀ R ∈ Rs, R.1.name ≠ G.name
theorem RI.fw {K : PySem.W.Frag} {Ts : List Addr} {H H' : Hp} {d a g : Addr} {wr : Nat} {kvs : List (Str × List Int)} {as : List Addr} {Rs : List (Gang × Int)} {G : Gang} (t : Tabs Ts H) (f : Fw Ts H H') (h : RI K H d a g wr kvs as Rs G) : RI K H' d a g wr kvs as Rs G := by
  obtain ⟨ps, hd⟩ := h.dd
  exact ⟨h.dr.fw t f, ⟨ps, f.obj t hd fun pp z => by cases z⟩, f.lst t h.la, h.l12, h.at_.kt (f.kt t), h.fit, h.wl, h.gg, h.no⟩
theorem RI.same {K : PySem.W.Frag} {H H' : Hp} {d a g : Addr} {wr : Nat} {kvs : List (Str × List Int)} {as : List Addr} {Rs : List (Gang × Int)} {G : Gang} (s : Same H H') (h : RI K H d a g wr kvs as Rs G) : RI K H' d a g wr kvs as Rs G := by
  obtain ⟨ps, hd⟩ := h.dd
  exact ⟨h.dr.same s, ⟨ps, s _ _ hd⟩, s _ _ h.la, h.l12, h.at_.same s, h.fit, h.wl, h.gg, h.no⟩
def spRI (K : PySem.W.Frag) (Ts : List Addr) : Sp := fun vs H Q _ => ∃ (d a g : Addr) (wr : Nat) (kvs : List (Str × List Int)) (as : List Addr) (Rs : List (Gang × Int)) (G : Gang), vs = [.ref d, .ref a, .ref g] ∧ RI K H d a g wr kvs as Rs G ∧ Tabs Ts H ∧ ∀ H', Fw Ts H H' → Q (.bl true) H'
theorem prs_tels {H : Hp} {n : Nat} : ∀ {ts us : List Addr} {ps : List (Str × Str)}, Paired (TelAt H) ts ps → Paired (TelAt H) us ps → Prs (Sm H (n + 1)) (ts.map V.ref) (us.map V.ref)
  | _, _, _, .nil, .nil => .nil
  | _, _, _, .cons h t, .cons h' t' => .cons (sm_tup h h' (by show 2 < 100000; decide) (.cons (sm_str _) (.cons (sm_str _) .nil))) (prs_tels t t')
theorem may_len (kvs : List (Str × List Int)) (Rs : List (Gang × Int)) (ns : List Str) (G : Gang) : (mayL kvs Rs ns G).length ≤ Rs.length := by
  have h : ∀ Gs : List Gang, (Gs.flatMap (pairOf kvs Rs ns G)).length ≤ Gs.length := fun Gs => by
    induction Gs with
    | nil => exact Nat.le_refl _
    | cons O Gs ih =>
      rw [List.flatMap_cons, List.length_append, List.length_cons]
      have : (pairOf kvs Rs ns G O).length ≤ 1 := by
        unfold pairOf
        split
        · split
          · exact Nat.le_refl _
          · exact Nat.zero_le _
        · exact Nat.zero_le _
      omega
  have := h ((ord Rs).map (·.1)).reverse
  rw [List.length_reverse, List.length_map, (ord_perm Rs).length_eq] at this
  exact this
end My

/-! the state's dues, rows and gang are fit to be handed in -/
namespace My
open PySem PySem.Spec PyProof.Rows L2 GX GxR
section
variable {K : PySem.W.Frag} {H : Hp} {d r g : Addr} {gs : List Str} {wr : Nat} {kvs : List (Str × List Int)} {Rs : List (Gang × Int)} {G : Gang}
theorem StateAt.kn (St : StateAt H d r g gs wr kvs Rs G) : (kvs.map (·.1)).Nodup := by
  rw [St.keys]
  exact St.gsok.nd
theorem StateAt.good (St : StateAt H d r g gs wr kvs Rs G) : Good2 Rs := good_state St.gsok St.w8 St.rok
theorem StateAt.l12 (St : StateAt H d r g gs wr kvs Rs G) : kvs.length ≤ 12 := by
  have := St.gsok.l12
  rw [← St.keys, List.length_map] at this
  exact this
theorem StateAt.fitG (St : StateAt H d r g gs wr kvs Rs G) : Fit (G, 0) := by
  refine fit_of St.gok St.gsok St.w8 ?_
  have : ∀ z ∈ (["z", "aaaaaaa", "zed"] : List Str), PySem.PyData.strOk z = true := by decide +kernel
  exact this _ St.gname
theorem StateAt.row (St : StateAt H d r g gs wr kvs Rs G) {R : Gang × Int} (h : R ∈ Rs) : GangOk gs wr R.1 := by
  obtain ⟨i, hi⟩ := List.mem_iff_getElem?.mp h
  exact (St.rok.2 i R hi).ok
theorem StateAt.no (St : StateAt H d r g gs wr kvs Rs G) : ∀ R ∈ Rs, R.1.name ≠ G.name := fun R hR z => by
  obtain ⟨i, hi⟩ := List.mem_iff_getElem?.mp hR
  have hi' : i < Rs.length := (List.getElem?_eq_some_iff.mp hi).1
  have lR := St.rok.1
  have nn := (St.rok.2 i R hi).name
  have off := (names_ok1.2 _ (rowName_mem (i := i) (by omega))).2.2
  rw [← nn, z] at off
  exact absurd St.gname off
theorem StateAt.same {H' : Hp} (St : StateAt H d r g gs wr kvs Rs G) (s : Same H H') : StateAt H' d r g gs wr kvs Rs G :=
  ⟨St.gsok, St.w1, St.w8, St.dues.kt (Same.kt s) (fun o h => s _ _ h), St.keys, St.amts, St.rows.kt (Same.kt s) (fun o h => s _ _ h), St.rok, St.gang.same s, St.gok, St.gname⟩
theorem StateAt.fw {Ts : List Addr} {H' : Hp} (St : StateAt H d r g gs wr kvs Rs G) (t : Tabs Ts H) (f : Fw Ts H H') : StateAt H' d r g gs wr kvs Rs G := by
  obtain ⟨ps, h1, h2⟩ := St.dues
  obtain ⟨as, h3, h4⟩ := St.rows
  exact ⟨St.gsok, St.w1, St.w8, ⟨ps, f.obj t h1 (fun pp z => by cases z), h2.mono fun _ _ x => x.kt (f.kt t)⟩, St.keys, St.amts, ⟨as, f.lst t h3, h4.mono fun _ _ x => x.kt (f.kt t)⟩, St.rok, St.gang.kt (f.kt t), St.gok, St.gname⟩
/-- rows of the state, in a list of their own, and a gang beside them -/
theorem StateAt.dr (St : StateAt H d r g gs wr kvs Rs G) {a : Addr} {bs : List Addr} {Ss : List (Gang × Int)} (ha : H a = some (.lst (bs.map V.ref))) (hp : Paired (RowAt H) bs Ss) (hs : ∀ R ∈ Ss, R ∈ Rs) (good : Good2 Ss) (few : Ss.length ≤ 60) : DR K H d a wr kvs bs Ss := by
  obtain ⟨ps, h1, h2⟩ := St.dues
  refine ⟨⟨ps, .inl h1, h2⟩, St.kn, fun kv h => (St.amts kv h).2, St.w1, St.w8, SqL.of ha, hp, good, few, fun R hR => (St.row (hs R hR)).wlen, fun R hR => ?_⟩
  rw [St.keys]
  exact (St.row (hs R hR)).guild
theorem StateAt.ri (St : StateAt H d r g gs wr kvs Rs G) {a : Addr} {bs : List Addr} {Ss : List (Gang × Int)} (ha : H a = some (.lst (bs.map V.ref))) (hp : Paired (RowAt H) bs Ss) (hs : ∀ R ∈ Ss, R ∈ Rs) (good : Good2 Ss) (few : Ss.length ≤ 60) : RI K H d a g wr kvs bs Ss G := by
  obtain ⟨ps, h1, h2⟩ := St.dues
  refine ⟨St.dr ha hp hs good few, ⟨ps, h1⟩, ha, St.l12, St.gang, St.fitG, St.gok.wlen, ?_, fun R hR => St.no R (hs R hR)⟩
  rw [St.keys]
  exact St.gok.guild
/-- one of the rows' own gangs beside the others -/
theorem StateAt.ri1 (St : StateAt H d r g gs wr kvs Rs G) {a o : Addr} {bs : List Addr} {Ss : List (Gang × Int)} {O : Gang × Int} (hO : O ∈ Rs) (hg : GangAt H o O.1) (no : ∀ R ∈ Ss, R.1.name ≠ O.1.name) (ha : H a = some (.lst (bs.map V.ref))) (hp : Paired (RowAt H) bs Ss) (hs : ∀ R ∈ Ss, R ∈ Rs) (good : Good2 Ss) (few : Ss.length ≤ 60) : RI K H d a o wr kvs bs Ss O.1 := by
  obtain ⟨ps, h1, h2⟩ := St.dues
  have ft := St.good.fit O hO
  refine ⟨St.dr ha hp hs good few, ⟨ps, h1⟩, ha, St.l12, hg, ⟨ft.name, ft.guild, ft.how, ft.wlen, ft.amt, ft.m0, ft.m60⟩, (St.row hO).wlen, ?_, no⟩
  rw [St.keys]
  exact (St.row hO).guild
end
/-! rows turned about -/
theorem paired_app {α β : Type} {R : α → β → Prop} : ∀ {xs : List α} {ys : List β} {us : List α} {vs : List β}, Paired R xs ys → Paired R us vs → Paired R (xs ++ us) (ys ++ vs)
  | _, _, _, _, .nil, h => h
  | _, _, _, _, .cons r t, h => .cons r (paired_app t h)
theorem paired_drop {α β : Type} {R : α → β → Prop} : ∀ {xs : List α} {ys : List β}, Paired R xs ys → ∀ m, Paired R (xs.drop m) (ys.drop m)
  | _, _, .nil, m => by
    rw [List.drop_nil, List.drop_nil]
    exact .nil
  | _, _, .cons h t, 0 => .cons h t
  | _, _, .cons h t, m + 1 => paired_drop t m
theorem rot_perm {α : Type} (xs : List α) (m : Nat) : (xs.drop m ++ xs.take m).Perm xs := by
  have h := List.perm_append_comm (l₁ := xs.drop m) (l₂ := xs.take m)
  rw [List.take_append_drop] at h
  exact h
/-- a box that is asked is no other thing's business -/
theorem Fw.box {Ts : List Addr} {H H1 H2 : Hp} {b : Addr} (t : Tabs Ts H) (f : Fw Ts H H1) (n : H b = none) (k : Kp [b] H1 H2) : Fw Ts H H2 := by
  refine ⟨fun x o nx e => k x o (fun z => ?_) (f.kp x o nx e), fun T hT => ?_⟩
  · rw [List.mem_singleton.mp z, n] at e
    cases e
  · refine TabG.kp k (fun z => ?_) (f.tabs T hT)
    obtain ⟨ps, h1, _⟩ := t T hT
    rw [List.mem_singleton.mp z, n] at h1
    cases h1
theorem duePut_mem {kvs : List (Str × List Int)} {g : Str} {ns : List Int} {kv : Str × List Int} (h : kv ∈ duePut kvs g ns) : kv ∈ kvs ∨ kv.2 = ns := by
  obtain ⟨x, hx, e⟩ := List.mem_map.mp h
  split at e
  · exact .inr (by rw [← e])
  · exact .inl (by rw [← e]; exact hx)
end My

/-! what is left when all that may be taken are away -/
namespace My
open PySem PySem.Spec PyProof.Rows L2 GX GxR
def goneL (kvs : List (Str × List Int)) (Rs : List (Gang × Int)) (G : Gang) : List Str := (takenL kvs Rs G).map (·.1)
def leftL (kvs : List (Str × List Int)) (Rs : List (Gang × Int)) (G : Gang) : List (Gang × Int) := Rs.filter fun R => !decide (R.1.name ∈ goneL kvs Rs G)
def stays (kvs : List (Str × List Int)) (Rs : List (Gang × Int)) (G F : Gang) : Bool := (groundOf kvs Rs G F).isNone
section
variable {kvs : List (Str × List Int)} {Rs : List (Gang × Int)} {G : Gang}
theorem gone_iff (nd : (Rs.map (·.1.name)).Nodup) {R : Gang × Int} (hR : R ∈ Rs) : (!decide (R.1.name ∈ goneL kvs Rs G)) = stays kvs Rs G R.1 := by
  unfold stays
  cases e : groundOf kvs Rs G R.1 with
  | none =>
    have : R.1.name ∉ goneL kvs Rs G := fun h => by
      obtain ⟨p, hp, ep⟩ := List.mem_map.mp h
      obtain ⟨S, hS, e1, e2⟩ := mem_takenL hp
      have := nodup_inj nd S hS R hR (e1.trans ep)
      rw [this, e] at e2
      cases e2
    rw [decide_eq_false this]
    rfl
  | some z =>
    have : R.1.name ∈ goneL kvs Rs G := by
      refine List.mem_map.mpr ⟨(R.1.name, z), List.mem_flatMap.mpr ⟨R.1, ?_, ?_⟩, rfl⟩
      · exact List.mem_reverse.mpr (List.mem_map.mpr ⟨R, (ord_perm Rs).mem_iff.mpr hR, rfl⟩)
      · unfold takenOf
        rw [e]
        exact List.mem_singleton.mpr rfl
    rw [decide_eq_true this]
    rfl
theorem left_eq (nd : (Rs.map (·.1.name)).Nodup) : leftL kvs Rs G = Rs.filter fun R => stays kvs Rs G R.1 := List.filter_congr fun R hR => gone_iff nd hR
theorem left_guild (nd : (Rs.map (·.1.name)).Nodup) (g : Str) : ofG (leftL kvs Rs G) g = (ofG Rs g).filter fun R => stays kvs Rs G R.1 := by
  rw [left_eq nd]
  unfold ofG
  rw [List.filter_filter, List.filter_filter]
  exact List.filter_congr fun R _ => Bool.and_comm _ _
end
/-- the gangs of a guild, in order -/
def gsOf (Rs : List (Gang × Int)) (g : Str) : List Gang := (ord (ofG Rs g)).map (·.1)
theorem filter_map_fst (p : Gang → Bool) : ∀ xs : List (Gang × Int), (xs.filter fun R => p R.1).map (·.1) = (xs.map (·.1)).filter p
  | [] => rfl
  | x :: xs => by
    rw [List.map_cons]
    by_cases h : p x.1 = true
    · rw [List.filter_cons_of_pos (p := fun R : Gang × Int => p R.1) h, List.filter_cons_of_pos h, List.map_cons, filter_map_fst p xs]
    · rw [List.filter_cons_of_neg (p := fun R : Gang × Int => p R.1) h, List.filter_cons_of_neg h, filter_map_fst p xs]
theorem part_filter {dn : List Int} {p : Gang → Bool} : ∀ {Gs : List Gang} {ld : List Int}, (∀ F ∈ ownOf dn Gs ld, p F = true) →
    ownOf dn (Gs.filter p) ld = ownOf dn Gs ld ∧ lentOf dn (Gs.filter p) ld = (lentOf dn Gs ld).filter p ∧ loadOf dn (Gs.filter p) ld = loadOf dn Gs ld
  | [], _, _ => ⟨rfl, rfl, rfl⟩
  | F :: Gs, ld, h => by
    by_cases hf : fitB (addL ld F.whole) dn = true
    · have e : ownOf dn (F :: Gs) ld = F :: ownOf dn Gs (addL ld F.whole) := by
        show (if _ then _ else _) = _
        rw [if_pos hf]
      rw [e] at h
      obtain ⟨h1, h2, h3⟩ := part_filter (Gs := Gs) (ld := addL ld F.whole) fun K hK => h K (List.mem_cons_of_mem _ hK)
      rw [List.filter_cons_of_pos (h F List.mem_cons_self)]
      simp only [ownOf, lentOf, loadOf, if_pos hf, h1, h2, h3, true_and]
    · have e : ownOf dn (F :: Gs) ld = ownOf dn Gs ld := by
        show (if _ then _ else _) = _
        rw [if_neg hf]
      rw [e] at h
      obtain ⟨h1, h2, h3⟩ := part_filter (Gs := Gs) (ld := ld) h
      by_cases hp : p F = true
      · rw [List.filter_cons_of_pos hp]
        simp only [ownOf, lentOf, loadOf, if_neg hf, h1, h2, h3, List.filter_cons_of_pos hp, true_and]
      · rw [List.filter_cons_of_neg hp]
        simp only [ownOf, lentOf, loadOf, if_neg hf, h1, h2, h3, List.filter_cons_of_neg hp, true_and]
section
variable {kvs : List (Str × List Int)} {Rs : List (Gang × Int)} {G : Gang}
theorem part_left (g2 : Good2 Rs) (g : Str) (dn : List Int) : partRs dn (ofG (leftL kvs Rs G) g) = (ownOf dn ((gsOf Rs g).filter (stays kvs Rs G)) (zeros dn.length), lentOf dn ((gsOf Rs g).filter (stays kvs Rs G)) (zeros dn.length), loadOf dn ((gsOf Rs g).filter (stays kvs Rs G)) (zeros dn.length)) := by
  have nd : ((ofG Rs g).map (·.2)).Nodup := (List.Sublist.map (·.2) (List.filter_sublist (p := fun R : Gang × Int => decide (R.1.guild = g)) (l := Rs))).nodup g2.nums
  rw [partRs_eq, left_guild g2.names, ord_filter nd, filter_map_fst]
  rfl
theorem gs_nodup (g2 : Good2 Rs) (g : Str) : (nm (gsOf Rs g)).Nodup := by
  have h : (nm (gsOf Rs g)).Perm ((ofG Rs g).map (·.1.name)) := by
    unfold nm gsOf
    rw [List.map_map]
    exact (ord_perm (ofG Rs g)).map _
  exact h.nodup_iff.mpr ((List.Sublist.map (·.1.name) (List.filter_sublist (p := fun R : Gang × Int => decide (R.1.guild = g)) (l := Rs))).nodup g2.names)
theorem gs_row {g : Str} {F : Gang} (h : F ∈ gsOf Rs g) : ∃ R ∈ Rs, R.1 = F ∧ F.guild = g := by
  obtain ⟨R, hR, e⟩ := List.mem_map.mp h
  obtain ⟨h1, h2⟩ := List.mem_filter.mp ((ord_perm _).mem_iff.mp hR)
  exact ⟨R, h1, e, by rw [← e]; exact of_decide_eq_true h2⟩
theorem lentG_eq (g : Str) : lentOfG kvs Rs g = nm (lentOf (dueOf kvs g) (gsOf Rs g) (zeros (dueOf kvs g).length)) := by
  unfold lentOfG
  rw [partRs_eq]
  rfl
/-- a lent one is lent, an own one isn't -/
theorem lent_in {g : Str} {F : Gang} (h : F ∈ lentOf (dueOf kvs g) (gsOf Rs g) (zeros (dueOf kvs g).length)) : lentIn kvs Rs F.name = true := by
  obtain ⟨R, hR, e, eg⟩ := gs_row ((lent_sub _ _ _).subset h)
  refine List.any_eq_true.mpr ⟨R, hR, decide_eq_true ?_⟩
  rw [e, eg, lentG_eq]
  exact List.mem_map.mpr ⟨F, h, rfl⟩
theorem own_not (g2 : Good2 Rs) {g : Str} {F : Gang} (h : F ∈ ownOf (dueOf kvs g) (gsOf Rs g) (zeros (dueOf kvs g).length)) : lentIn kvs Rs F.name = false := by
  obtain ⟨R, hR, e, eg⟩ := gs_row ((own_sub _ _ _).subset h)
  cases hl : lentIn kvs Rs F.name with
  | false => rfl
  | true =>
    obtain ⟨S, hS, hz⟩ := List.any_eq_true.mp hl
    have hz := of_decide_eq_true hz
    obtain ⟨S', hS', e1, e2⟩ := lentG_row hz
    have : S' = R := nodup_inj g2.names S' hS' R hR (by show S'.1.name = R.1.name; rw [e2, e])
    rw [this, e, eg] at e1
    rw [← e1, lentG_eq] at hz
    have hf := (filt_own (dn := dueOf kvs g) (ld := zeros (dueOf kvs g).length) (gs_nodup g2 g)).2
    rw [← hf] at hz
    have := (List.mem_filter.mp hz).2
    rw [decide_eq_true (show F.name ∈ nm (ownOf (dueOf kvs g) (gsOf Rs g) (zeros (dueOf kvs g).length)) from List.mem_map.mpr ⟨F, h, rfl⟩)] at this
    cases this
theorem own_stays (g2 : Good2 Rs) {g : Str} (hc : g ≠ G.guild ∨ ownB (dueOf kvs G.guild) (ofG Rs G.guild) G = false) : ∀ F ∈ ownOf (dueOf kvs g) (gsOf Rs g) (zeros (dueOf kvs g).length), stays kvs Rs G F = true := fun F hF => by
  have h := own_not (kvs := kvs) g2 hF
  obtain ⟨R, hR, e, eg⟩ := gs_row ((own_sub _ _ _).subset hF)
  unfold stays groundOf
  rw [h, eg]
  rcases hc with hc | hc
  · rw [if_neg hc]
    rfl
  · by_cases hg : g = G.guild
    · rw [if_pos hg, hc]
      unfold gIn
      rw [if_neg (by simp)]
      rfl
    · rw [if_neg hg]
      rfl
/-- (4) the own ones are the same -/
theorem left_own (g2 : Good2 Rs) {g : Str} (hc : g ≠ G.guild ∨ ownB (dueOf kvs G.guild) (ofG Rs G.guild) G = false) : (partRs (dueOf kvs g) (ofG (leftL kvs Rs G) g)).1 = (partRs (dueOf kvs g) (ofG Rs g)).1 ∧ (partRs (dueOf kvs g) (ofG (leftL kvs Rs G) g)).2.2 = (partRs (dueOf kvs g) (ofG Rs g)).2.2 ∧
    (partRs (dueOf kvs g) (ofG (leftL kvs Rs G) g)).2.1 = (lentOf (dueOf kvs g) (gsOf Rs g) (zeros (dueOf kvs g).length)).filter (stays kvs Rs G) := by
  obtain ⟨h1, h2, h3⟩ := part_filter (own_stays (kvs := kvs) g2 hc)
  rw [part_left g2, partRs_eq]
  exact ⟨h1, h3, h2⟩
/-- (3) where it is own, none of a lesser rank is left -/
theorem left_above (g2 : Good2 Rs) (ho : ownB (dueOf kvs G.guild) (ofG Rs G.guild) G = true) : ofG (leftL kvs Rs G) G.guild = aboveOf G.rank (ofG Rs G.guild) := by
  rw [left_guild g2.names]
  refine List.filter_congr fun R hR => ?_
  have hg : R.1.guild = G.guild := of_decide_eq_true (List.mem_filter.mp hR).2
  unfold stays groundOf
  rw [if_pos hg, ho]
  unfold gIn
  by_cases hl : R.1.rank < G.rank
  · rw [decide_eq_true hl, if_pos (by simp), decide_eq_false (by omega)]
    rfl
  · rw [decide_eq_false hl, if_neg (by simp), decide_eq_true (by omega)]
    rfl
/-- (1) no lent one of a lesser rank is left -/
theorem left_lent (g2 : Good2 Rs) {g : Str} : ∀ F ∈ (partRs (dueOf kvs g) (ofG (leftL kvs Rs G) g)).2.1, ¬ F.rank < G.rank := fun F hF hl => by
  by_cases hc : g ≠ G.guild ∨ ownB (dueOf kvs G.guild) (ofG Rs G.guild) G = false
  · rw [(left_own g2 hc).2.2] at hF
    obtain ⟨h1, h2⟩ := List.mem_filter.mp hF
    have hi := lent_in h1
    obtain ⟨R, hR, e, eg⟩ := gs_row ((lent_sub _ _ _).subset h1)
    unfold stays groundOf at h2
    rw [hi, eg, decide_eq_true hl] at h2
    by_cases hg : g = G.guild
    · rw [if_pos hg] at h2
      cases h2
    · rw [if_neg hg] at h2
      unfold gBey at h2
      cases ho : owedB (dueOf kvs G.guild) (ofG Rs G.guild) G <;> rw [ho] at h2 <;> cases h2
  · have hg : g = G.guild := Classical.byContradiction fun z => hc (.inl z)
    have ho : ownB (dueOf kvs G.guild) (ofG Rs G.guild) G = true := by
      cases h : ownB (dueOf kvs G.guild) (ofG Rs G.guild) G with
      | true => rfl
      | false => exact absurd (.inr h) hc
    subst hg
    obtain ⟨R, hR, e⟩ := partRs_mem (.inr hF)
    rw [left_above g2 ho] at hR
    have := of_decide_eq_true (List.mem_filter.mp hR).2
    rw [e] at this
    omega
/-- (2) where it is owed, no lent one of another guild is left -/
theorem left_none (g2 : Good2 Rs) {g : Str} (hg : g ≠ G.guild) (ho : owedB (dueOf kvs G.guild) (ofG Rs G.guild) G = true) : (partRs (dueOf kvs g) (ofG (leftL kvs Rs G) g)).2.1 = [] := by
  rw [(left_own g2 (.inl hg)).2.2]
  refine List.filter_eq_nil_iff.mpr fun F hF z => ?_
  have hi := lent_in hF
  obtain ⟨R, hR, e, eg⟩ := gs_row ((lent_sub _ _ _).subset hF)
  unfold stays groundOf at z
  rw [hi, eg, if_neg hg, ho] at z
  cases z
end
/-! one that is owed would be own -/
theorem ord_split {Rs : List (Gang × Int)} (nd : (Rs.map (·.2)).Nodup) (r : Int) : ord Rs = ord (aboveOf r Rs) ++ ord (belowOf r Rs) := by
  refine (ord_of nd ?_ ?_).symm
  · exact ((ord_perm (aboveOf r Rs)).append (ord_perm (belowOf r Rs))).trans (List.filter_append_perm _ Rs)
  · rw [List.pairwise_append]
    refine ⟨ord_sorted _, ord_sorted _, fun a ha b hb => ?_⟩
    have ha3 : r ≤ a.1.rank := of_decide_eq_true (List.mem_filter.mp ((ord_perm _).mem_iff.mp ha)).2
    have hb' := (List.mem_filter.mp ((ord_perm _).mem_iff.mp hb)).2
    simp only [Bool.not_eq_true', decide_eq_false_iff_not] at hb'
    unfold rowLe
    rw [decide_eq_true_eq]
    omega
def leL (xs ys : List Int) : Prop := xs.length = ys.length ∧ ∀ (i : Nat) (x y : Int), xs[i]? = some x → ys[i]? = some y → x ≤ y
theorem leL_refl (xs : List Int) : leL xs xs := ⟨rfl, fun i x y h1 h2 => by rw [h1] at h2; cases h2; exact Int.le_refl _⟩
theorem leL_trans {xs ys zs : List Int} (a : leL xs ys) (b : leL ys zs) : leL xs zs := ⟨a.1.trans b.1, fun i x z h1 h2 => by
  have hi : i < ys.length := by rw [← a.1]; exact (List.getElem?_eq_some_iff.mp h1).1
  exact Int.le_trans (a.2 i x _ h1 (List.getElem?_eq_getElem hi)) (b.2 i _ z (List.getElem?_eq_getElem hi) h2)⟩
theorem fitB_iff {xs ys : List Int} : fitB xs ys = true ↔ ∀ (i : Nat) (x y : Int), xs[i]? = some x → ys[i]? = some y → x ≤ y := by
  unfold fitB
  rw [List.all_eq_true]
  refine ⟨fun h i x y h1 h2 => ?_, fun h b hb => ?_⟩
  · refine of_decide_eq_true (h (decide (x ≤ y)) (List.mem_of_getElem? (i := i) ?_))
    rw [List.getElem?_zipWith, h1, h2]
  · obtain ⟨i, hi⟩ := List.mem_iff_getElem?.mp hb
    rw [List.getElem?_zipWith] at hi
    cases e1 : xs[i]? with
    | none => rw [e1] at hi; cases hi
    | some x =>
      cases e2 : ys[i]? with
      | none => rw [e1, e2] at hi; cases hi
      | some y =>
        rw [e1, e2] at hi
        cases hi
        exact decide_eq_true (h i x y e1 e2)
theorem fitB_le {xs ys dn : List Int} (h : leL xs ys) (f : fitB ys dn = true) : fitB xs dn = true := fitB_iff.mpr fun i x d h1 h2 => by
  have hi : i < ys.length := by rw [← h.1]; exact (List.getElem?_eq_some_iff.mp h1).1
  exact Int.le_trans (h.2 i x _ h1 (List.getElem?_eq_getElem hi)) (fitB_iff.mp f i _ d (List.getElem?_eq_getElem hi) h2)
theorem addL_at {xs ys : List Int} {i : Nat} {z : Int} (h : (addL xs ys)[i]? = some z) : ∃ x y, xs[i]? = some x ∧ ys[i]? = some y ∧ z = x + y := by
  unfold addL at h
  rw [List.getElem?_zipWith] at h
  cases e1 : xs[i]? with
  | none => rw [e1] at h; cases h
  | some x =>
    cases e2 : ys[i]? with
    | none => rw [e1, e2] at h; cases h
    | some y =>
      rw [e1, e2] at h
      exact ⟨x, y, rfl, rfl, (Option.some.inj h).symm⟩
theorem addL_le {xs ys ws : List Int} (h : leL xs ys) : leL (addL xs ws) (addL ys ws) := by
  refine ⟨by unfold addL; rw [List.length_zipWith, List.length_zipWith, h.1], fun i a b h1 h2 => ?_⟩
  obtain ⟨x, u, e1, e2, rfl⟩ := addL_at h1
  obtain ⟨y, u', e3, e4, rfl⟩ := addL_at h2
  rw [e2] at e4
  cases e4
  have := h.2 i x y e1 e3
  omega
theorem addL_more {xs ws : List Int} (hl : ws.length = xs.length) (hn : ∀ n ∈ ws, 0 ≤ n) : leL xs (addL xs ws) := by
  refine ⟨by rw [addL_len hl], fun i x y h1 h2 => ?_⟩
  obtain ⟨x', u, e1, e2, rfl⟩ := addL_at h2
  rw [h1] at e1
  cases e1
  have := hn u (List.mem_of_getElem? e2)
  omega
theorem load_more {dn : List Int} : ∀ {Gs : List Gang} {ld : List Int}, (∀ F ∈ Gs, F.want.length = ld.length ∧ ∀ n ∈ F.whole, 0 ≤ n) → leL ld (loadOf dn Gs ld)
  | [], ld, _ => leL_refl ld
  | F :: Gs, ld, h => by
    have hF := h F List.mem_cons_self
    unfold loadOf
    split
    · have hl : (addL ld F.whole).length = ld.length := addL_len (by rw [whole_len]; exact hF.1)
      exact leL_trans (addL_more (by rw [whole_len]; exact hF.1) hF.2) (load_more fun K hK => ⟨by rw [hl]; exact (h K (List.mem_cons_of_mem _ hK)).1, (h K (List.mem_cons_of_mem _ hK)).2⟩)
    · exact load_more fun K hK => h K (List.mem_cons_of_mem _ hK)
theorem whole_nn {R : Gang × Int} (f : Fit R) : ∀ n ∈ R.1.whole, 0 ≤ n := fun n hn => by
  obtain ⟨x, hx, rfl⟩ := List.mem_map.mp hn
  exact Int.mul_nonneg (f.amt x hx).1 f.m0
/-- (5) -/
theorem owed_own {dn : List Int} {Ms : List (Gang × Int)} {G : Gang} (g2 : Good2 Ms) (hw : ∀ R ∈ Ms, R.1.want.length = dn.length) (h : owedB dn Ms G = true) : ownB dn Ms G = true := by
  unfold ownB owedB
  unfold owedB at h
  refine fitB_le (addL_le ?_) h
  rw [partRs_eq, partRs_eq]
  show leL (loadOf dn _ _) (loadOf dn _ _)
  rw [ord_split g2.nums G.rank, List.map_append, (own_app dn _ _ _).2.2]
  refine load_more fun F hF => ?_
  obtain ⟨R, hR, rfl⟩ := List.mem_map.mp hF
  have hR' := (List.mem_filter.mp ((ord_perm _).mem_iff.mp hR)).1
  have hl := load_len (dn := dn) (Rs := aboveOf G.rank Ms) fun S hS => hw S (List.mem_filter.mp hS).1
  rw [partRs_eq] at hl
  exact ⟨by rw [hw R hR']; exact hl.symm, whole_nn (g2.fit R hR')⟩
/-- (6) -/
theorem left_owed {kvs : List (Str × List Int)} {Rs : List (Gang × Int)} {G : Gang} (g2 : Good2 Rs) (hw : ∀ R ∈ ofG Rs G.guild, R.1.want.length = (dueOf kvs G.guild).length) : owedB (dueOf kvs G.guild) (ofG (leftL kvs Rs G) G.guild) G = ownB (dueOf kvs G.guild) (ofG Rs G.guild) G := by
  cases ho : ownB (dueOf kvs G.guild) (ofG Rs G.guild) G with
  | true =>
    rw [left_above g2 ho]
    exact ho
  | false =>
    unfold owedB
    rw [(left_own g2 (.inr ho)).2.1]
    cases hd : owedB (dueOf kvs G.guild) (ofG Rs G.guild) G with
    | false => exact hd
    | true =>
      have : ownB (dueOf kvs G.guild) (ofG Rs G.guild) G = true := owed_own (g2.sub List.filter_sublist) hw hd
      rw [ho] at this
      cases this
/-! a dict that is walked is locked, and unlocked again -/
theorem Tabs.lock {Ts : List Addr} {H : Hp} {d od : Addr} {o : Obj} {ps : List (Key × V)} (t : Tabs Ts H) (ed : H d = some (.dK ps)) : Tabs Ts (upd H d (.frz o (.dK ps))) := fun T hT => by
  obtain ⟨pp, h1, h2⟩ := t T hT
  refine ⟨pp, ?_, h2⟩
  rw [upd_ne fun z => ?_]
  · exact h1
  · rw [z, ed] at h1
    cases h1
theorem Fw.unlock {Ts : List Addr} {H H' : Hp} {d : Addr} {o : Obj} {ps : List (Key × V)} (t : Tabs Ts H) (ed : H d = some (.dK ps)) (f : Fw Ts (upd H d (.frz o (.dK ps))) H') : Fw Ts H (upd H' d (.dK ps)) := by
  have Tk : Tabs Ts (upd H d (.frz o (.dK ps))) := Tabs.lock (od := d) t ed
  have ek : upd H d (.frz o (.dK ps)) d = some (.frz o (.dK ps)) := upd_same
  refine ⟨fun x u nx e => ?_, fun T hT => ?_⟩
  · by_cases z : x = d
    · rw [z] at e ⊢
      rw [upd_same, ← e, ed]
    · rw [upd_ne z]
      refine f.kp x u nx ?_
      rw [upd_ne z]
      exact e
  · obtain ⟨pp, h1, h2⟩ := f.tabs T hT
    refine ⟨pp, ?_, h2⟩
    rw [upd_ne fun z => ?_]
    · exact h1
    · have := f.obj Tk ek fun pp z => by cases z
      rw [← z, h1] at this
      cases this
end My

set_option maxHeartbeats 2000000
/-! sorted of a set of pairs of whole numbers, of any sign -/
namespace ST
open PySem PySem.Spec PyProof.Rows L2 PpSet PySem.W
def encP (q : Addr × List Int) : PyData := .tuple (q.2.map PyData.int)
/-- what is a permutation of an image is an image of a permutation -/
theorem perm_image {α β : Type} {f : α → β} {xs zs : List β} (h : xs.Perm zs) : ∀ ys : List α, zs = ys.map f → ∃ ws : List α, ws.Perm ys ∧ xs = ws.map f := by
  induction h with
  | nil =>
    intro ys e
    cases ys with
    | nil => exact ⟨[], .nil, rfl⟩
    | cons y ys => cases e
  | cons x h ih =>
    intro ys e
    cases ys with
    | nil => cases e
    | cons y ys =>
      injection e with e1 e2
      obtain ⟨ws, p, r⟩ := ih ys e2
      exact ⟨y :: ws, p.cons y, by rw [List.map_cons, ← e1, ← r]⟩
  | swap x y l =>
    intro ys e
    match ys, e with
    | a :: b :: ys, e =>
      injection e with e1 e2
      injection e2 with e2 e3
      exact ⟨b :: a :: ys, .swap a b ys, by rw [List.map_cons, List.map_cons, ← e1, ← e2, ← e3]⟩
  | trans h1 h2 ih1 ih2 =>
    intro ys e
    obtain ⟨ws, p, r⟩ := ih2 ys e
    obtain ⟨vs, p', r'⟩ := ih1 ws r
    exact ⟨vs, p'.trans p, r'⟩
section
variable {X : Cx}
def rSortP (K : PySem.W.Frag) (P : Program) (w : World) : List V → Hp → VK → Prop := fun vs H Q => ∃ (a : Addr) (L : List (Addr × List Int)), vs = [V.ref a] ∧ H a = some (SetTO P w a L) ∧ (∀ p ∈ L, SqT K H p.1 (p.2.map V.int) ∧ p.2.length = 2) ∧
  ∀ (M : List (Addr × List Int)) (p : Addr), M.Perm L → (L.map (·.2)).Nodup → M.Pairwise (fun q r => dataLe false encP q r = true) → H p = none → Q (.ref p) (upd H p (.lst (M.map fun q => V.ref q.1)))
theorem cr_sortP (hc : X.calm = true) (hu : X.A.units + 64 < cLine) : CallR X (.builtin "sorted") (rSortP X.K X.prog X.w) := by
  intro pins s σ H vs us Q I r h
  obtain ⟨a, L, rfl, ha, hk, q⟩ := h
  obtain ⟨es, ep, t, R⟩ := SetT0.full (P := X.prog) (w := X.w) (I.hok a _ ha).1 fun p hp => I.isT (hk p hp).1
  obtain ⟨ob, hob, hex, hdat⟩ := R.ob
  have few := R.few
  have hsz := R.size
  rw [Vals.ref1 r]
  refine Calls.call_function_entry kind_sorted plain_sorted entry_sorted (args_sorted1 _) ?_
  unfold Builtin.«sorted»
  refine wpAny_bind (m := checkCount "sorted" 1 1 _) (wpAny_pure ?_)
  refine wpAny_bind (collect_set (A := X.A.in1) (I.ok.hd hc) ⟨ob, hob, hex.1, hdat⟩ R.fits (by unfold scanBound; omega) R.tab.ris R.led fun s1 us k1 hz g1 o1 pe => ?_)
  obtain ⟨L1, pL, eu⟩ := perm_image pe L (show es.toList.map (·.2) = L.map (fun q => Value.ref q.1) by rw [R.rows]; unfold L2.rowsOf; rw [List.map_map] <;> rfl)
  subst eu
  have l1 : L1.length < 64 := by rw [pL.length_eq]; exact few
  have lz : (L1.map fun q => Value.ref q.1).length ≤ sizeLine := by
    rw [List.length_map, sizeLine_eq]
    omega
  refine wpAny_bind (wpAny_newList ?_ lz)
  generalize hvs : (L1.map fun q => Value.ref q.1) = vs at lz
  have hoL : (s1.heap.push (seqObj "list" vs.toArray 0)).get? s1.heap.objs.size = some (seqObj "list" vs.toArray 0) := Heap.get?_push_size _ rfl
  have each : ∀ {Ls : List (Addr × List Int)}, EachIs (fun (v : Value) (q : Addr × List Int) => v = Value.ref q.1) (Ls.map fun q => Value.ref q.1) Ls := by
    intro Ls
    induction Ls with
    | nil => exact .nil
    | cons q Ls ih => exact .cons rfl ih
  have back : ∀ {us : List Value} {Ls : List (Addr × List Int)}, EachIs (fun (v : Value) (q : Addr × List Int) => v = Value.ref q.1) us Ls → Vals (Ls.map fun q => V.ref q.1) us := by
    intro us Ls e
    induction e with
    | nil => exact .nil
    | cons r t ih => exact .cons (by rw [r]; rfl) ih
  have rds : ∀ {Ls : List (Addr × List Int)}, (∀ q ∈ Ls, q ∈ L) → EachIs (fun (v : Value) (q : Addr × List Int) => ∃ as, Reads (s1.heap.push (seqObj "list" vs.toArray 0)) v (encP q) as ∧ s1.heap.objs.size ∉ as) (Ls.map fun q => Value.ref q.1) Ls := by
    intro Ls
    induction Ls with
    | nil => exact fun _ => .nil
    | cons q Ls ih =>
      intro hs
      refine .cons ?_ (ih fun p hp => hs p (List.mem_cons_of_mem _ hp))
      obtain ⟨its, rv, ⟨o, ho, hcl, n, hd⟩, _⟩ := I.tuple (hk q (hs q List.mem_cons_self)).1
      have ra : ∀ {ns : List Int} {us : List Value}, Vals (ns.map V.int) us → ReadsAll (s1.heap.push (seqObj "list" vs.toArray 0)) us (ns.map PyData.int) [] := by
        intro ns
        induction ns with
        | nil => intro us r; cases r; exact .nil
        | cons m ns ih2 =>
          intro us r
          cases r with
          | cons r t =>
            obtain ⟨tk, rfl⟩ := r
            exact .cons (as := []) (bs := []) (Reads.int ..) (ih2 t) 
      have hold : s1.heap.get? q.1 = some o := k1 _ _ ho
      exact ⟨[], .tuple (Heap.get?_push_of_some _ hold) hcl hd (by simpa using ra rv), fun hm => nomatch hm⟩
  have e1 : EachIs (fun (v : Value) (q : Addr × List Int) => v = Value.ref q.1) vs L1 := hvs ▸ each
  have e2 := rds (Ls := L1) fun q hq => pL.mem_iff.mp hq
  rw [hvs] at e2
  refine wpAny_bind (wpAny_holding (list_sort_data (s := { s1 with heap := s1.heap.push (seqObj "list" vs.toArray 0) }) (enc := encP) hoL e1 e2 ?_ ?_ (by rw [← e1.length]; exact lz) (fun q hq => ?_) fun out lo eo => ?_))
  · intro d hd d' hd'
    obtain ⟨p, hp, rfl⟩ := List.mem_map.mp hd
    obtain ⟨p', hp', rfl⟩ := List.mem_map.mp hd'
    have al : ∀ ns ms : List Int, alikeAll (ns.map PyData.int) (ms.map PyData.int) = true := by
      intro ns
      induction ns with
      | nil => intro ms; cases ms <;> rfl
      | cons n ns ih =>
        intro ms
        cases ms with
        | nil => rfl
        | cons m ms => simp only [List.map_cons, alikeAll, alike, Bool.true_and]; exact ih ms
    show alikeAll _ _ = true
    exact al _ _
  · refine .inl fun d hd => ?_
    obtain ⟨p, hp, rfl⟩ := List.mem_map.mp hd
    have h2 := (hk p (pL.mem_iff.mp hp)).2
    obtain ⟨pa, pn⟩ := p
    match pn, h2 with
    | [x, y], _ => exact ⟨_, _, rfl⟩
  · have dp : (encP q).depth ≤ 1 := by
      show PyData.depthAll (q.2.map PyData.int) + 1 ≤ 1
      rw [depth_ints]
      exact Nat.le_refl _
    show X.A.units + 1 + 1 + _ < cLine
    omega
  obtain ⟨c, at1⟩ := sortedHeap_at (vs := vs) (out := out.toArray) hoL
  have keep : ∀ b u, s.heap.get? b = some u → (sortedHeap (s1.heap.push (seqObj "list" vs.toArray 0)) s1.heap.objs.size vs out.toArray).get? b = some u := fun b u e => by
    have hq := k1 b u e
    have hlt := Heap.lt_size hq
    rw [sortedHeap_old (Nat.ne_of_lt hlt) (by rw [size_push']; exact Nat.lt_succ_of_lt hlt)]
    exact Heap.get?_push_of_some _ hq
  have hn : H s1.heap.objs.size = none := I.hok.fresh hz
  have hlen : ((L1.mergeSort (dataLe false encP)).map fun q => V.ref q.1).length ≤ sizeLine := by
    rw [List.length_map, List.length_mergeSort, sizeLine_eq]
    omega
  have J : Inv X pins σ (upd H s1.heap.objs.size (.lst ((L1.mergeSort (dataLe false encP)).map fun q => V.ref q.1))) { s with heap := sortedHeap (s1.heap.push (seqObj "list" vs.toArray 0)) s1.heap.objs.size vs out.toArray, gens := s1.gens, drawn := s1.drawn, toks := s1.toks } :=
    I.call (ch := []) (Un.laid keep hz hn) (I.hok.laid keep hz ⟨hlen, out, c, back eo, at1⟩) (by rw [g1]; exact I.bare) (fun _ z => nomatch z)
  have es1 : ({ s1 with heap := sortedHeap (s1.heap.push (seqObj "list" vs.toArray 0)) s1.heap.objs.size vs out.toArray } : Shared) = { s with heap := sortedHeap (s1.heap.push (seqObj "list" vs.toArray 0)) s1.heap.objs.size vs out.toArray, gens := s1.gens, drawn := s1.drawn, toks := s1.toks } := by
    cases s1
    cases s
    cases o1
    rfl
  refine wpAny_pure ⟨_, rfl, ?_⟩
  rw [es1]
  have tl := sortLe_total (listOrd itemOrd) false fun q : Addr × List Int => keyToks (encP q)
  exact ⟨.ref _, _, J, rfl, q _ _ ((List.mergeSort_perm _ _).trans pL) R.nd (List.pairwise_mergeSort (fun a b c => tl.trans a b c) (fun a b => by rw [Bool.or_eq_true]; exact tl.total a b) L1) hn⟩
end
/-- pairs, in their order -/
theorem pair_le {x y : Addr × List Int} {a b c d : Int} (hx : x.2 = [a, b]) (hy : y.2 = [c, d]) : dataLe false encP x y = true ↔ (a < c ∨ (a = c ∧ b ≤ d)) := by
  unfold dataLe sortLe
  show (!lexLt itemOrd (keyToks (encP y)) (keyToks (encP x))) = true ↔ _
  unfold encP
  rw [hx, hy]
  show (!lexLt itemOrd [.inl 1, .inl c, .inl 1, .inl d, .inl 0] [.inl 1, .inl a, .inl 1, .inl b, .inl 0]) = true ↔ _
  simp only [PyProof.Rows.lexLt]
  show (!(itemLt (.inl 1) (.inl 1) || (!itemLt (.inl 1) (.inl 1) && (itemLt (.inl c) (.inl a) || (!itemLt (.inl a) (.inl c) && (itemLt (.inl 1) (.inl 1) || (!itemLt (.inl 1) (.inl 1) && (itemLt (.inl d) (.inl b) || (!itemLt (.inl b) (.inl d) && (itemLt (.inl 0) (.inl 0) || (!itemLt (.inl 0) (.inl 0) && false))))))))))) = true ↔ _
  simp only [itemLt, Int.lt_irrefl, decide_false, Bool.false_or, Bool.not_false, Bool.true_and, Bool.and_false, Bool.or_false, Bool.not_eq_true', Bool.or_eq_false_iff, Bool.and_eq_false_iff, decide_eq_false_iff_not, decide_eq_true_eq, Bool.not_eq_false']
  omega
end ST

/-! grounds, and where those stand that may be taken from -/
namespace My
open PySem PySem.Spec PyProof.Rows L2 GX GxR
def takenR (kvs : List (Str × List Int)) (Rs : List (Gang × Int)) (G : Gang) : List (Gang × Int) := (ord Rs).reverse.filter fun R => (groundOf kvs Rs G R.1).isSome
def grOf (kvs : List (Str × List Int)) (Rs : List (Gang × Int)) (G F : Gang) : Str := (groundOf kvs Rs G F).getD ""
theorem taken_rows (kvs : List (Str × List Int)) (Rs : List (Gang × Int)) (G : Gang) : takenL kvs Rs G = (takenR kvs Rs G).map fun R => (R.1.name, grOf kvs Rs G R.1) := by
  unfold takenL takenR
  rw [← List.map_reverse]
  generalize (ord Rs).reverse = Ss
  induction Ss with
  | nil => rfl
  | cons S Ss ih =>
    rw [List.map_cons, List.flatMap_cons, ih]
    unfold takenOf grOf
    cases h : groundOf kvs Rs G S.1 with
    | none =>
      rw [List.filter_cons_of_neg (by rw [h]; decide)]
      rfl
    | some z =>
      rw [List.filter_cons_of_pos (by rw [h]; rfl), List.map_cons, h]
      rfl
theorem takenR_mem {kvs : List (Str × List Int)} {Rs : List (Gang × Int)} {G : Gang} {R : Gang × Int} (h : R ∈ takenR kvs Rs G) : R ∈ Rs ∧ groundOf kvs Rs G R.1 = some (grOf kvs Rs G R.1) := by
  obtain ⟨h1, h2⟩ := List.mem_filter.mp h
  refine ⟨(ord_perm Rs).mem_iff.mp (List.mem_reverse.mp h1), ?_⟩
  unfold grOf
  cases e : groundOf kvs Rs G R.1 with
  | none => rw [e] at h2; cases h2
  | some z => rfl
theorem takenR_len (kvs : List (Str × List Int)) (Rs : List (Gang × Int)) (G : Gang) : (takenR kvs Rs G).length ≤ Rs.length := by
  have h := List.length_filter_le (fun R : Gang × Int => (groundOf kvs Rs G R.1).isSome) (ord Rs).reverse
  rw [List.length_reverse, (ord_perm Rs).length_eq] at h
  exact h
/-- their spots rise -/
def spotOf (R : Gang × Int) : List Int := [R.1.rank, -R.2]
theorem spots_rise {kvs : List (Str × List Int)} {Rs : List (Gang × Int)} {G : Gang} (nd : (Rs.map (·.2)).Nodup) : (takenR kvs Rs G).Pairwise fun R S => R.1.rank < S.1.rank ∨ (R.1.rank = S.1.rank ∧ -R.2 < -S.2) := by
  unfold takenR
  refine List.Pairwise.sublist List.filter_sublist ?_
  rw [List.pairwise_reverse]
  have nd2 : ((ord Rs).map (·.2)).Nodup := ((ord_perm Rs).map (·.2)).nodup_iff.mpr nd
  refine List.Pairwise.imp₂ (R := fun a b => rowLe a b = true) (S := fun a b => a.2 ≠ b.2) (fun a b h1 h2 => ?_) (ord_sorted Rs) (List.pairwise_map.mp nd2)
  unfold rowLe at h1
  simp only [decide_eq_true_eq] at h1
  omega
/-- the ground that is told -/
theorem ground_is {kvs : List (Str × List Int)} {Rs : List (Gang × Int)} {G F : Gang} {z : Str} (h : groundOf kvs Rs G F = some z) :
    z = (if (owedB (dueOf kvs G.guild) (ofG Rs G.guild) G && !decide (F.guild = G.guild)) = true then ("share" : Str) else "rank") ∧ (z = ("rank" : Str) → F.rank < G.rank) ∧ (F.guild ≠ G.guild → lentIn kvs Rs F.name = true) := by
  have ne : ¬ (("share" : Str) = "rank") := by decide
  unfold groundOf at h
  by_cases hg : F.guild = G.guild
  · rw [if_pos hg] at h
    unfold gIn at h
    split at h
    · next hc =>
      cases h
      refine ⟨?_, fun _ => ?_, fun h => absurd hg h⟩
      · rw [decide_eq_true hg]
        simp
      · simp only [Bool.and_eq_true, decide_eq_true_eq] at hc
        exact hc.1
    · cases h
  · rw [if_neg hg] at h
    unfold gBey at h
    rw [decide_eq_false hg]
    cases hl : lentIn kvs Rs F.name with
    | false => rw [hl] at h; cases h
    | true =>
      cases ho : owedB (dueOf kvs G.guild) (ofG Rs G.guild) G with
      | true =>
        rw [hl, ho] at h
        cases h
        exact ⟨rfl, fun e => absurd e ne, fun _ => rfl⟩
      | false =>
        rw [hl, ho] at h
        by_cases hr : F.rank < G.rank
        · rw [decide_eq_true hr] at h
          cases h
          exact ⟨rfl, fun _ => hr, fun _ => rfl⟩
        · rw [decide_eq_false hr] at h
          cases h
theorem lent_off {kvs : List (Str × List Int)} {Rs : List (Gang × Int)} (g2 : Good2 Rs) {R : Gang × Int} (hR : R ∈ Rs) (h : lentIn kvs Rs R.1.name = true) : R.1.name ∉ (partRs (dueOf kvs R.1.guild) (ofG Rs R.1.guild)).1.map (·.name) := fun z => by
  obtain ⟨F, hF, e⟩ := List.mem_map.mp z
  rw [partRs_eq] at hF
  have := own_not (kvs := kvs) g2 (g := R.1.guild) hF
  rw [e, h] at this
  cases this
/-- the rows by their names -/
def toldD (ps : List (Addr × (Gang × Int))) : List (Key × V) := ps.map fun p => (Sum.inr p.2.1.name, V.ref p.1)
theorem told_val {H : Hp} {ps : List (Addr × (Gang × Int))} (hp : ∀ p ∈ ps, RowAt H p.1 p.2) (nd : ((ps.map (·.2)).map (·.1.name)).Nodup) {R : Gang × Int} (h : R ∈ ps.map (·.2)) : ∃ ra, valV (toldD ps) (Sum.inr R.1.name) = some (.ref ra) ∧ RowAt H ra R := by
  obtain ⟨p, hp1, rfl⟩ := List.mem_map.mp h
  obtain ⟨i, hi⟩ := List.mem_iff_getElem?.mp hp1
  refine ⟨p.1, valV_get (i := i) ?_ ?_, hp p hp1⟩
  · unfold toldD
    rw [List.map_map]
    have : ((fun x : Key × V => x.1) ∘ fun p : Addr × (Gang × Int) => ((Sum.inr p.2.1.name : Key), V.ref p.1)) = (fun z : Str => (Sum.inr z : Key)) ∘ fun p : Addr × (Gang × Int) => p.2.1.name := rfl
    rw [this, ← List.map_map]
    rw [List.map_map] at nd
    exact keys_nd nd
  · unfold toldD
    rw [List.getElem?_map, hi]
    rfl
/-- pairs as data -/
def telD (p : Str × Str) : PyData := .tuple [.str p.1, .str p.2]
theorem dp_tels {K : PySem.W.Frag} {H : Hp} : ∀ {ts : List Addr} {ps : List (Str × Str)}, Paired (TelAt H) ts ps → DpAll K H (ts.map V.ref) (ps.map telD)
  | _, _, .nil => .nil
  | _, _, .cons r t => .cons (.tup (SqT.of r) (.cons (.str _) (.cons (.str _) .nil))) (dp_tels t)
theorem sh_tels {ps : List (Str × Str)} (h : ∀ p ∈ ps, PySem.PyData.strOk p.1 = true ∧ PySem.PyData.strOk p.2 = true) : SeqAt.shaped (.list (ps.map telD)) = true := by
  unfold SeqAt.shaped
  have h1 : ∀ {ps : List (Str × Str)}, (∀ p ∈ ps, PySem.PyData.strOk p.1 = true ∧ PySem.PyData.strOk p.2 = true) → PyData.canLayAll0 (ps.map telD) = true := by
    intro ps
    induction ps with
    | nil => exact fun _ => rfl
    | cons p ps ih =>
      intro h
      have hp := h p List.mem_cons_self
      have i2 := ih fun q hq => h q (List.mem_cons_of_mem _ hq)
      rw [List.map_cons]
      simp [telD, PyData.canLay0, PyData.canLayAll0, hp.1, hp.2, i2]
  have h2 : ∀ ps : List (Str × Str), PyData.depthAll (ps.map telD) ≤ 1 := by
    intro ps
    induction ps with
    | nil => decide
    | cons p ps ih =>
      rw [List.map_cons]
      simp only [PyData.depthAll, telD, PyData.depth]
      omega
  have h3 : PyData.canLay0 (.list (ps.map telD)) = true := h1 h
  have h4 : (PyData.list (ps.map telD)).depth ≤ 64 := by
    have := h2 ps
    simp only [PyData.depth]
    omega
  rw [h3, decide_eq_true h4]
  rfl
theorem ground_ok {kvs : List (Str × List Int)} {Rs : List (Gang × Int)} {G F : Gang} {z : Str} (h : groundOf kvs Rs G F = some z) : PySem.PyData.strOk z = true := by
  rw [(ground_is h).1]
  split <;> decide +kernel
theorem may_ok {kvs : List (Str × List Int)} {Rs : List (Gang × Int)} {ns : List Str} {G : Gang} (g2 : Good2 Rs) : ∀ p ∈ mayL kvs Rs ns G, PySem.PyData.strOk p.1 = true ∧ PySem.PyData.strOk p.2 = true := fun p hp => by
  rw [may_taken] at hp
  obtain ⟨R, hR, e1, e2⟩ := mem_takenL (List.mem_filter.mp hp).1
  exact ⟨by rw [← e1]; exact (g2.fit R hR).name, ground_ok e2⟩
/-! lists of tuples of whole numbers as data -/
def tupD (x : List Int) : PyData := .tuple (x.map PyData.int)
theorem sh_spots (xs : List (List Int)) : SeqAt.shaped (.list (xs.map tupD)) = true := by
  unfold SeqAt.shaped
  have h1 : ∀ xs : List (List Int), PyData.canLayAll0 (xs.map tupD) = true := by
    intro xs
    induction xs with
    | nil => rfl
    | cons x xs ih =>
      rw [List.map_cons]
      simp [tupD, PyData.canLay0, PyData.canLayAll0, lay_ints, ih]
  have h2 : ∀ xs : List (List Int), PyData.depthAll (xs.map tupD) ≤ 1 := by
    intro xs
    induction xs with
    | nil => decide
    | cons x xs ih =>
      rw [List.map_cons]
      simp only [PyData.depthAll, tupD, PyData.depth, dpt_ints]
      omega
  have h3 : PyData.canLay0 (.list (xs.map tupD)) = true := h1 xs
  have h4 : (PyData.list (xs.map tupD)).depth ≤ 64 := by
    have := h2 xs
    simp only [PyData.depth]
    omega
  rw [h3, decide_eq_true h4]
  rfl
theorem dp_spots {K : PySem.W.Frag} {H : Hp} : ∀ {us : List (Addr × List Int)}, (∀ p ∈ us, H p.1 = some (.tup (p.2.map V.int))) → DpAll K H (us.map fun p => V.ref p.1) ((us.map (·.2)).map tupD)
  | [], _ => .nil
  | p :: us, h => .cons (.tup (SqT.of (h p List.mem_cons_self)) (dp_ints _)) (dp_spots fun q hq => h q (List.mem_cons_of_mem _ hq))
end My

set_option maxHeartbeats 1000000
/-! zip of any two iterators of which each gives its next one by its own rule; zip(list, tuple). -/
namespace ZM
open PySem
section
variable {prog : Program} {w : World}
/-- asked for its next one while P stands, the iterator at `it` gives x, alters itself only, and then R stands -/
def Gives (prog : Program) (w : World) (it : Addr) (x : Value) (P R : Heap → Prop) : Prop :=
  ∀ (A : Around) (Q : Value → Shared → Prop) (E : Value → Shared → Prop) (s : Shared), P s.heap → (∀ h', R h' → Heap.SameBut it s.heap h' → Q x { s with heap := h' }) → wpAny (model prog w) A (Builtin.SmallTypes.nextOf (.ref it)) Q E s
/-- asked for its next one while P stands, it has none -/
def Ends (prog : Program) (w : World) (it : Addr) (P : Heap → Prop) : Prop :=
  ∀ (A : Around) (Q : Value → Shared → Prop) (E : Value → Shared → Prop) (s : Shared), A.handled = none → P s.heap → (∀ h' e, Heap.ExtBut it s.heap h' → (∃ o, h'.get? e = some o ∧ o.cls = .type "StopIteration") → E (.ref e) { s with heap := h' }) →
    wpAny (model prog w) A (Builtin.SmallTypes.nextOf (.ref it)) Q E s
/-- P speaks of nothing at c -/
def Off (P : Heap → Prop) (c : Addr) : Prop := ∀ h h', Heap.ExtBut c h h' → P h → P h'
variable {A : Around} {E : Value → Shared → Prop} {s : Shared} {z TI TO i1 i2 : Addr} {x y a b : Value} {P1 R1 P2 R2 : Heap → Prop}

theorem run_item {Q : Value → Shared → Prop} (zTO : TO ≠ z) (z1 : i1 ≠ z) (z2 : i2 ≠ z) (o1 : TO ≠ i1) (o2 : TO ≠ i2) (i12 : i1 ≠ i2)
    (n1 : Gives prog w i1 x P1 R1) (n2 : Gives prog w i2 y P2 R2) (p1z : Off P1 z) (p2z : Off P2 z) (p2o : Off P2 TO) (p2i : Off P2 i1)
    (hz : IsZip s.heap z TI TO .none) (hTI : IsPair s.heap TI (.ref i1) (.ref i2)) (hTO : IsPair s.heap TO a b) (h1 : P1 s.heap) (h2 : P2 s.heap)
    (hQ : ∀ h' h1 h2, IsZip h' z TI TO (rawInt s.heap.objs.size) → IsPair h' TO x y → R1 h1 → (∀ o, h1.get? i1 = some o → h'.get? i1 = some o) → R2 h2 → (∀ o, h2.get? i2 = some o → h'.get? i2 = some o) → IsPair h' s.heap.objs.size x y →
      (∀ c o, c ≠ z → c ≠ TO → c ≠ i1 → c ≠ i2 → s.heap.get? c = some o → h'.get? c = some o) → Q (.ref s.heap.objs.size) { s with heap := h' }) :
    wpAny (model prog w) A (Builtin.«zip.__next__» ⟨[.ref z], []⟩) (fun fin s' => ∃ v, fin = .done (.ret v) ∧ Q v s') E s := by
  show wpAny _ _ (field (.ref z) 2 >>= _) _ _ _
  refine wpAny_bind (wpAny_field hz rfl (x := .bool false) rfl ?_)
  show wpAny _ _ (field (.ref z) 3 >>= _) _ _ _
  refine wpAny_bind (wpAny_field hz rfl (x := .ref TI) rfl (wpAny_bind (wpAny_seqItems hTI rfl ?_)))
  show wpAny _ _ (Builtin.SmallTypes.ownedTupleIsFree (.ref z) >>= _) _ _ _
  refine wpAny_bind ?_
  unfold Builtin.SmallTypes.ownedTupleIsFree
  refine wpAny_bind (wpAny_field hz rfl (x := .none) rfl (wpAny_pure ?_))
  simp only [if_true]
  refine wpAny_bind (wpAny_rule (wpAny_bind (wpAny_field hz rfl (x := .ref TO) rfl (wpAny_bind (wpAny_setField_rec hz (by simp) fun ha za sa => wpAny_bind ?_)))))
  replace za : IsZip ha z TI TO .ellipsis := za
  have xa := sa.extBut
  simp only [List.zipIdx_cons, List.zipIdx_nil, List.forIn_cons, List.forIn_nil]
  refine wpAny_bind (wpAny_bind (wpAny_onRaise ?_))
  show wpAny _ _ (Builtin.SmallTypes.nextOf (.ref i1) >>= _) _ _ _
  refine wpAny_bind (n1 _ _ _ _ (p1z _ _ xa h1) fun hb rb sb => wpAny_pure ?_)
  have xb := sb.extBut
  have tb : IsPair hb TO a b := xb _ _ o1 (xa _ _ zTO hTO)
  refine wpAny_bind (wpAny_seqItems tb rfl (wpAny_bind (wpAny_updateSeq_pair tb fun hc tc sc => wpAny_bind (wpAny_letGo (wpAny_pure ?_)))))
  replace tc : IsPair hc TO x b := tc
  have xc := sc.extBut
  refine wpAny_bind (wpAny_bind (wpAny_onRaise ?_))
  show wpAny _ _ (Builtin.SmallTypes.nextOf (.ref i2) >>= _) _ _ _
  refine wpAny_bind (n2 _ _ _ _ (p2o _ _ xc (p2i _ _ xb (p2z _ _ xa h2))) fun hd rd sd => wpAny_pure ?_)
  have xd := sd.extBut
  have td : IsPair hd TO x b := xd _ _ o2 tc
  refine wpAny_bind (wpAny_seqItems td rfl (wpAny_bind (wpAny_updateSeq_pair td fun he te se => wpAny_bind (wpAny_letGo (wpAny_pure (wpAny_pure ?_))))))
  replace te : IsPair he TO x y := te
  have xe := se.extBut
  have size : he.objs.size = s.heap.objs.size := by rw [se.1, sd.1, sc.1, sb.1, sa.1]
  have ze : IsZip he z TI TO .ellipsis := xe _ _ zTO.symm (xd _ _ z2.symm (xc _ _ zTO.symm (xb _ _ z1.symm za)))
  have zlt : z < he.objs.size := Heap.lt_size ze
  refine wpAny_bind (wpAny_seqItems te rfl (wpAny_bind (wpAny_newTuple ?_)))
  show wpAny _ _ (Builtin.SmallTypes.ownedTupleHandOut (.ref z) (.ref he.objs.size) >>= _) _ _ _
  refine wpAny_bind ?_
  unfold Builtin.SmallTypes.ownedTupleHandOut
  have zf : IsZip (he.push { cls := .type "tuple", data := .seq #[x, y] }) z TI TO .ellipsis := Heap.get?_push_of_some _ ze
  refine wpAny_bind (wpAny_setField_rec zf (by simp) fun hg zg sg => ?_)
  replace zg : IsZip hg z TI TO (rawInt he.objs.size) := zg
  refine wpAny_setField_rec zg (by simp) fun hl zl sl => ?_
  replace zl : IsZip hl z TI TO (rawInt he.objs.size) := zl
  have up : ∀ c o, c ≠ z → (he.push { cls := .type "tuple", data := .seq #[x, y] }).get? c = some o → hl.get? c = some o := fun c o n e => sl.extBut _ _ n (sg.extBut _ _ n e)
  have pair : IsPair hl he.objs.size x y := up _ _ (Nat.ne_of_gt zlt) (Heap.get?_push_size _ rfl)
  have up2 : ∀ c o, c ≠ z → he.get? c = some o → hl.get? c = some o := fun c o n e => up c o n (Heap.get?_push_of_some _ e)
  refine wpAny_pure ⟨_, rfl, ?_⟩
  show Q (.ref he.objs.size) _
  rw [size] at zl pair ⊢
  exact hQ hl hb hd zl (up2 _ _ zTO te) rb (fun o e => up2 _ o z1 (xe _ _ o1.symm (xd _ _ i12 (xc _ _ o1.symm e)))) rd (fun o e => up2 _ o z2 (xe _ _ o2.symm e)) pair
    fun c o c1 c2 c3 c4 e => up2 c o c1 (xe _ _ c2 (xd _ _ c4 (xc _ _ c2 (xb _ _ c3 (xa _ _ c1 e)))))

theorem run_end {Q : Fin → Shared → Prop} (hh : A.handled = none) (z1 : i1 ≠ z) (n1 : Ends prog w i1 P1) (p1z : Off P1 z)
    (hz : IsZip s.heap z TI TO .none) (hTI : IsPair s.heap TI (.ref i1) (.ref i2)) (h1 : P1 s.heap)
    (hE : ∀ h' e, (∀ c o, c ≠ z → c ≠ i1 → s.heap.get? c = some o → h'.get? c = some o) → (∃ o, h'.get? e = some o ∧ o.cls = .type "StopIteration") → E (.ref e) { s with heap := h' }) :
    wpAny (model prog w) A (Builtin.«zip.__next__» ⟨[.ref z], []⟩) Q E s := by
  show wpAny _ _ (field (.ref z) 2 >>= _) _ _ _
  refine wpAny_bind (wpAny_field hz rfl (x := .bool false) rfl ?_)
  show wpAny _ _ (field (.ref z) 3 >>= _) _ _ _
  refine wpAny_bind (wpAny_field hz rfl (x := .ref TI) rfl (wpAny_bind (wpAny_seqItems hTI rfl ?_)))
  show wpAny _ _ (Builtin.SmallTypes.ownedTupleIsFree (.ref z) >>= _) _ _ _
  refine wpAny_bind ?_
  unfold Builtin.SmallTypes.ownedTupleIsFree
  refine wpAny_bind (wpAny_field hz rfl (x := .none) rfl (wpAny_pure ?_))
  simp only [if_true]
  refine wpAny_bind (wpAny_rule (wpAny_bind (wpAny_field hz rfl (x := .ref TO) rfl (wpAny_bind (wpAny_setField_rec hz (by simp) fun ha za sa => wpAny_bind ?_)))))
  replace za : IsZip ha z TI TO .ellipsis := za
  have xa := sa.extBut
  simp only [List.zipIdx_cons, List.zipIdx_nil, List.forIn_cons, List.forIn_nil]
  refine wpAny_bind (wpAny_bind (wpAny_onRaise ?_))
  show wpAny _ _ (Builtin.SmallTypes.nextOf (.ref i1) >>= _) _ _ _
  refine wpAny_bind (n1 _ _ _ _ hh (p1z _ _ xa h1) fun hb e xb he => ?_)
  obtain ⟨oe, hoe, hce⟩ := he
  have zb : IsZip hb z TI TO .ellipsis := xb _ _ z1.symm za
  have ez : e ≠ z := fun q => by
    subst q
    rw [zb] at hoe
    cases hoe
    simp at hce
  exact wpAny_setField_rec zb (by simp) fun hc _ sc => hE hc e (fun c o c1 c2 q => sc.extBut _ _ c1 (xb _ _ c2 (xa _ _ c1 q))) ⟨oe, sc.extBut _ _ ez hoe, hce⟩

theorem next_item {Q : Option Value → Shared → Prop} (zTO : TO ≠ z) (z1 : i1 ≠ z) (z2 : i2 ≠ z) (o1 : TO ≠ i1) (o2 : TO ≠ i2) (i12 : i1 ≠ i2)
    (n1 : Gives prog w i1 x P1 R1) (n2 : Gives prog w i2 y P2 R2) (p1z : Off P1 z) (p2z : Off P2 z) (p2o : Off P2 TO) (p2i : Off P2 i1)
    (hz : IsZip s.heap z TI TO .none) (hTI : IsPair s.heap TI (.ref i1) (.ref i2)) (hTO : IsPair s.heap TO a b) (h1 : P1 s.heap) (h2 : P2 s.heap)
    (hQ : ∀ h' h1 h2, IsZip h' z TI TO (rawInt s.heap.objs.size) → IsPair h' TO x y → R1 h1 → (∀ o, h1.get? i1 = some o → h'.get? i1 = some o) → R2 h2 → (∀ o, h2.get? i2 = some o → h'.get? i2 = some o) → IsPair h' s.heap.objs.size x y →
      (∀ c o, c ≠ z → c ≠ TO → c ≠ i1 → c ≠ i2 → s.heap.get? c = some o → h'.get? c = some o) → Q (some (.ref s.heap.objs.size)) { s with heap := h' }) :
    wpAny (model prog w) A (pyNext (.ref z)) Q E s := by
  have hT : s.TypeIs (.ref z) "zip" := ⟨_, hz, rfl⟩
  unfold pyNext
  exact wpAny_bind (wpAny_attempt (wpAny_callSpecial?_slot (name := Str.ofString "__next__") hT F.slot_zip_next (wpAny_call_entry F.slot_zip_next hT F.entry_zip_next
    (run_item zTO z1 z2 o1 o2 i12 n1 n2 p1z p2z p2o p2i hz hTI hTO h1 h2 fun h' g1 g2 q1 q2 q3 q4 q5 q6 q7 q8 => wpAny_pure (hQ h' g1 g2 q1 q2 q3 q4 q5 q6 q7 q8)) (F.args_zip_next_1 _))))
theorem next_end {Q : Option Value → Shared → Prop} (hh : A.handled = none) (z1 : i1 ≠ z) (n1 : Ends prog w i1 P1) (p1z : Off P1 z)
    (hz : IsZip s.heap z TI TO .none) (hTI : IsPair s.heap TI (.ref i1) (.ref i2)) (h1 : P1 s.heap)
    (hQ : ∀ h', (∀ c o, c ≠ z → c ≠ i1 → s.heap.get? c = some o → h'.get? c = some o) → Q none { s with heap := h' }) : wpAny (model prog w) A (pyNext (.ref z)) Q E s := by
  have hT : s.TypeIs (.ref z) "zip" := ⟨_, hz, rfl⟩
  unfold pyNext
  refine wpAny_bind (wpAny_attempt (wpAny_callSpecial?_slot (name := Str.ofString "__next__") hT F.slot_zip_next (wpAny_call_entry F.slot_zip_next hT F.entry_zip_next
    (run_end hh z1 n1 p1z hz hTI h1 fun h' e hk he => ?_) (F.args_zip_next_1 _))))
  obtain ⟨o, ho, hc⟩ := he
  exact wpAny_bind (wpAny_isInstance (T := "StopIteration") (b := true) ⟨o, ho, hc⟩ isSubtype_stop (wpAny_pure (hQ _ hk)))
end

/-! ### zip(list, tuple): the call -/
/-- an iterator's first stand -/
abbrev itr (T : String) (l : Addr) : Obj := { cls := .type T, data := .fields #[.ref l, .int 0 0] }
abbrev tup2 (a b : Value) : Obj := { cls := .type "tuple", data := .seq #[a, b] }
abbrev two (h : Heap) (p q : Obj) : Heap := (h.push p).push q
abbrev three (h : Heap) (p q : Obj) : Heap := (two h p q).push (tup2 (.ref h.objs.size) (.ref (h.push p).objs.size))
abbrev four (h : Heap) (p q : Obj) : Heap := (three h p q).push (tup2 .none .none)
abbrev five (h : Heap) (p q : Obj) : Heap := (four h p q).push { cls := .type "zip", data := .fields #[.none, .bool false, .bool false, .ref (two h p q).objs.size, .ref (three h p q).objs.size] }
theorem meets_new (l1 l2 : Addr) (xs ys : Array Value) : Meets (Builtin.«zip.__new__» ⟨[.type "zip", .ref l1, .ref l2], []⟩) (fun _ R s => s.heap.IsList l1 xs ∧ s.heap.IsTuple l2 ys ∧
    R (.ok (.ret (.ref (four s.heap (itr "list_iterator" l1) (itr "tuple_iterator" l2)).objs.size))) { s with heap := five s.heap (itr "list_iterator" l1) (itr "tuple_iterator" l2) }) :=
  .of_wp fun prog w A R s h => by
    obtain ⟨hp, g, d, tk, os⟩ := s
    obtain ⟨q1, q2, h⟩ := h
    have hsub := sub_zip
    have hL1 : Heap.IsList (Shared.heap ⟨hp, g, d, tk, os⟩) l1 xs := q1
    have hL2 : Heap.IsTuple (Shared.heap ⟨hp.push (itr "list_iterator" l1), g, d, tk, os⟩) l2 ys := Heap.IsTuple.push q2 _
    wp_walk using wpAny_pyIter_list hL1, wpAny_pyIter_tuple hL2
    exact ⟨_, rfl, h⟩
section
variable {prog : Program} {w : World} {A : Around} {E : Value → Shared → Prop} {s : Shared}
theorem call_mixed {l1 l2 : Addr} {xs ys : Array Value} {Q : Value → Shared → Prop} (q1 : s.heap.IsList l1 xs) (q2 : s.heap.IsTuple l2 ys)
    (h : ∀ h' n, n = s.heap.objs.size → IsZip h' (n + 4) (n + 2) (n + 3) .none → IsPair h' (n + 2) (.ref n) (.ref (n + 1)) → IsPair h' (n + 3) .none .none → h'.IsListIter n l1 0 → h'.IsTupleIter (n + 1) l2 0 →
      (∀ c o, s.heap.get? c = some o → h'.get? c = some o) → Q (.ref (n + 4)) { s with heap := h' }) : wpAny (model prog w) A (call (.type "zip") [.ref l1, .ref l2]) Q E s := by
  refine callType_new F.called_zip (by decide) (F.typeCall_zip_2 _ _) (F.newCall_zip_2 _ _) (fun obj => F.args_object_init_3 obj _ _) F.entry_zip_new (meets_new l1 l2 xs ys) ⟨q1, q2, ?_⟩
  generalize hp : itr "list_iterator" l1 = p
  generalize hq : itr "tuple_iterator" l2 = q
  have n1 : (s.heap.push p).objs.size = s.heap.objs.size + 1 := Heap.size_push ..
  have n2 : (two s.heap p q).objs.size = s.heap.objs.size + 2 := by rw [Heap.size_push, n1]
  have n3 : (three s.heap p q).objs.size = s.heap.objs.size + 3 := by rw [Heap.size_push, n2]
  have n4 : (four s.heap p q).objs.size = s.heap.objs.size + 4 := by rw [Heap.size_push, n3]
  have kp : ∀ {h : Heap} {o r : Obj} {c : Addr}, h.get? c = some o → (h.push r).get? c = some o := fun e => Heap.get?_push_of_some _ e
  have f1 : p.isFreed = false := by rw [← hp]; rfl
  have f2 : q.isFreed = false := by rw [← hq]; rfl
  have a1 : (five s.heap p q).get? s.heap.objs.size = some p := kp (kp (kp (kp (Heap.get?_push_size _ f1))))
  have a2 : (five s.heap p q).get? (s.heap.push p).objs.size = some q := kp (kp (kp (Heap.get?_push_size _ f2)))
  have a3 : (five s.heap p q).get? (two s.heap p q).objs.size = some _ := kp (kp (Heap.get?_push_size _ rfl))
  have a4 : (five s.heap p q).get? (three s.heap p q).objs.size = some _ := kp (Heap.get?_push_size _ rfl)
  have a5 : (five s.heap p q).get? (four s.heap p q).objs.size = some _ := Heap.get?_push_size _ rfl
  show _ ∧ _
  rw [n2, n3, n4] at a5
  rw [n1, n2] at a3
  rw [n3] at a4
  rw [n1] at a2
  rw [n4]
  subst hp hq
  exact ⟨⟨_, a5, rfl⟩, h _ _ rfl a5 a3 a4 ⟨_, a1, rfl, rfl⟩ ⟨_, a2, rfl, rfl⟩ fun c o e => kp (kp (kp (kp (kp e))))⟩
end
section
variable {prog : Program} {w : World}
theorem gives_list {it l : Addr} {k : Nat} {xs : Array Value} {x : Value} (hx : xs[k]? = some x) : Gives prog w it x (fun h => h.IsListIter it l k ∧ h.IsList l xs) (fun h => h.IsListIter it l (k + 1)) :=
  fun _ _ _ _ p h => wpAny_nextOf_list_item p.1 p.2 hx h
theorem gives_tup {it l : Addr} {k : Nat} {xs : Array Value} {x : Value} (hx : xs[k]? = some x) : Gives prog w it x (fun h => h.IsTupleIter it l k ∧ h.IsTuple l xs) (fun h => h.IsTupleIter it l (k + 1)) :=
  fun _ _ _ _ p h => RZ.nextOf_tuple_item p.1 p.2 hx h
theorem ends_list {it l : Addr} {k : Nat} {xs : Array Value} (hx : xs[k]? = none) : Ends prog w it (fun h => h.IsListIter it l k ∧ h.IsList l xs) :=
  fun _ _ _ _ hh p h => wpAny_nextOf_list_end hh p.1 p.2 hx h
theorem off_list {it l c : Addr} {k : Nat} {xs : Array Value} (h1 : it ≠ c) (h2 : l ≠ c) : Off (fun h => h.IsListIter it l k ∧ h.IsList l xs) c := fun _ _ e p => ⟨p.1.extBut e h1, p.2.extBut e h2⟩
theorem off_tup {it l c : Addr} {k : Nat} {xs : Array Value} (h1 : it ≠ c) (h2 : l ≠ c) : Off (fun h => h.IsTupleIter it l k ∧ h.IsTuple l xs) c := fun _ _ e p => ⟨p.1.extBut e h1, p.2.extBut e h2⟩
end
end ZM
namespace ZM
open PySem PySem.Spec PyProof.Rows L2
/-- the list at a and the tuple at b as they stand at each turn, the items in new pairs; stopped by the list -/
def ItM (K : PySem.W.Frag) (a b : Addr) : It :=
  ⟨fun i H => ∃ (xs ys : List V) (x y : V), SqL K H a xs ∧ SqT K H b ys ∧ xs[i]? = some x ∧ ys[i]? = some y,
    fun i H v H' => ∃ T x y, v = .ref T ∧ H T = none ∧ H' = upd H T (.tup [x, y]) ∧ (∀ xs, SqL K H a xs → xs[i]? = some x) ∧ ∀ ys, SqT K H b ys → ys[i]? = some y,
    fun i H => ∃ xs : List V, SqL K H a xs ∧ xs.length ≤ i⟩
theorem walk_mixed {K : PySem.W.Frag} {a b : Addr} {xs ys : List V} (hl : xs.length = ys.length) : Walk (ItM K a b) xs.length (fun H => SqL K H a xs ∧ SqT K H b ys) (YPair (fun i => xs[i]?) (fun i => ys[i]?)) :=
  ⟨fun i _ hi q => ⟨xs, ys, xs[i], ys[i]'(by omega), q.1, q.2, List.getElem?_eq_getElem hi, List.getElem?_eq_getElem (by omega)⟩, fun _ q => ⟨xs, q.1, Nat.le_refl _⟩, fun _ _ _ _ _ q y => by
    obtain ⟨T, x, y, e, n, e2, f1, f2⟩ := y
    exact ⟨T, x, y, e, n, e2, f1 _ q.1, f2 _ q.2⟩⟩
theorem turn_mixed {P : Program} {w : World} {K : PySem.W.Frag} {elts : List Expr} {kk : Nat} {tpos : Pos} {a b z TI TO i1 i2 : Addr} (D : ZipApart z TI TO i1 i2 a b) :
    Turn P w K (.Tuple elts kk tpos) (ItM K a b) [z, TI, TO, i1, i2] z (fun i h => IsZip h z TI TO .none ∧ IsPair h TI (.ref i1) (.ref i2) ∧ (∃ x y, IsPair h TO x y) ∧ h.IsListIter i1 a i ∧ h.IsTupleIter i2 b i) where
  mem := List.mem_cons_self
  obj := fun i h st c hc => by
    obtain ⟨hz, hTI, ⟨x, y, hTO⟩, ⟨o1, e1, _, d1⟩, ⟨o2, e2, _, d2⟩⟩ := st
    simp only [List.mem_cons, List.not_mem_nil, or_false] at hc
    rcases hc with rfl | rfl | rfl | rfl | rfl
    · exact ⟨_, hz, fun v q => nomatch q⟩
    · exact ⟨_, hTI, fun v q => nomatch q⟩
    · exact ⟨_, hTO, fun v q => nomatch q⟩
    · exact ⟨o1, e1, fun v q => by rw [d1] at q; cases q⟩
    · exact ⟨o2, e2, fun v q => by rw [d2] at q; cases q⟩
  keep := fun i h h' st k => by
    obtain ⟨hz, hTI, ⟨x, y, hTO⟩, h1, h2⟩ := st
    exact ⟨k z (by simp) _ hz, k TI (by simp) _ hTI, ⟨x, y, k TO (by simp) _ hTO⟩, h1.at fun o q => k i1 (by simp) o q, h2.at fun o q => k i2 (by simp) o q⟩
  item := by
    intro X hP hw hK hc i pins s σ H E I hf st hg
    subst hP hw hK
    obtain ⟨hz, hTI, ⟨x0, y0, hTO⟩, h1, h2⟩ := st
    obtain ⟨xs, ys, x, y, hqx, hqy, hx, hy⟩ := hg
    obtain ⟨us, ru, p1, _⟩ := I.list hqx
    obtain ⟨ws, rw', p2, _⟩ := I.tuple hqy
    obtain ⟨u, hu, r1⟩ := ru.get hx
    obtain ⟨u2, hu2, r2⟩ := rw'.get hy
    have zlt : z < s.heap.objs.size := Heap.lt_size hz
    have below : ∀ c ∈ [z, TI, TO, i1, i2], c < s.heap.objs.size := fun c hc => by
      simp only [List.mem_cons, List.not_mem_nil, or_false] at hc
      rcases hc with rfl | rfl | rfl | rfl | rfl
      · exact zlt
      · exact Heap.lt_size hTI
      · exact Heap.lt_size hTO
      · obtain ⟨_, e, _⟩ := h1; exact Heap.lt_size e
      · obtain ⟨_, e, _⟩ := h2; exact Heap.lt_size e
    refine next_item D.TOz D.i1z D.i2z D.TOi1 D.TOi2 D.i12 (gives_list (xs := us.toArray) (x := u) (by simpa using hu)) (gives_tup (xs := ws.toArray) (x := u2) (by simpa using hu2)) (off_list D.i1z D.l1z) (off_tup D.i2z D.l2z) (off_tup D.TOi2.symm D.l2TO) (off_tup D.i12.symm D.l2i1)
      hz hTI hTO ⟨h1, p1.isList⟩ ⟨h2, p2⟩ fun h' g1 g2 z' TO' q1 k1 q2 k2 hT hk => ⟨_, rfl, wpAny_letOwnedTupleGo_zip (s := { s with heap := h' }) z' fun h'' z'' sb => ?_⟩
    have up : ∀ c o, c ≠ z → h'.get? c = some o → h''.get? c = some o := fun c o n e => (sb.2 c n).trans e
    have new : ObjOk X.prog X.w (upd H s.heap.objs.size (.tup [x, y])) h'' s.heap.objs.size (.tup [x, y]) :=
      ⟨by show 2 ≤ sizeLine; decide, [u, u2], .cons r1 (.cons r2 .nil), ⟨_, up _ _ (Nat.ne_of_gt zlt) hT, rfl, _, rfl⟩⟩
    have I1 : Inv X pins σ (upd H s.heap.objs.size (.tup [x, y])) { s with heap := h'' } :=
      I.turnedNew (t' := s.toks) (ch := [z, TI, TO, i1, i2]) (fun c o hb q => by
        simp only [List.mem_cons, List.not_mem_nil, or_false, not_or] at hb
        exact up c o hb.1 (hk c o hb.1 hb.2.2.1 hb.2.2.2.1 hb.2.2.2.2 q)) hf (Nat.le_refl _) new
    refine ⟨.ref s.heap.objs.size, _, I1, rfl, ⟨_, x, y, rfl, I.hok.fresh (Nat.le_refl _), rfl, fun l hl => by rw [I.list_inj hl hqx]; exact hx, fun l hl => by rw [I.tuple_inj hl hqy]; exact hy⟩,
      ⟨z'', up _ _ D.TIz (hk _ _ D.TIz D.TITO D.TIi1 D.TIi2 hTI), ⟨u, u2, up _ _ D.TOz TO'⟩, q1.at fun o e => up _ o D.i1z (k1 o e), q2.at fun o e => up _ o D.i2z (k2 o e)⟩, fun c hcm => ?_⟩
    rw [upd_ne (Nat.ne_of_lt (below c hcm))]
    exact (hf c hcm).1
  done := by
    intro X hP hw hK hc i pins s σ H E I hf st hg
    subst hP hw hK
    obtain ⟨hz, hTI, hTO, h1, h2⟩ := st
    obtain ⟨xs, hqx, hend⟩ := hg
    obtain ⟨us, ru, p1, _⟩ := I.list hqx
    have l1 := ru.length
    exact next_end (I.ok.hd hc) D.i1z (ends_list (xs := us.toArray) (by simp; omega)) (off_list D.i1z D.l1z) hz hTI ⟨h1, p1.isList⟩ fun h' hk => ⟨rfl, I.turnedL (t' := s.toks) (ch := [z, TI, TO, i1, i2]) (fun c o hb q => by
      simp only [List.mem_cons, List.not_mem_nil, or_false, not_or] at hb
      exact hk c o hb.1 hb.2.2.2.1 q) hf⟩
  self := fun A i s Q E st h => wpAny_pyIter_zip st.1 h
def iMix (K : PySem.W.Frag) (ta : TA) : TI := fun σ H R => ta σ H fun vs H1 => ∃ a b xs ys, vs = [.ref a, .ref b] ∧ SqL K H1 a xs ∧ SqT K H1 b ys ∧ R (ItM K a b) H1
theorem pi_mix {X : Cx} {e e2 : Expr} {ta : TA} {p pos tpos : Pos} {elts : List Expr} {kk : Nat} (hg : Gl X "zip") (hm : X.mg "zip" = none) (ha : PA X [e, e2] ta)
    (hs : starEach [e, e2] X.env = (false, eval e X.env) :: starEach [e2] X.env := by rfl) (hpl : (backTo pos (starEach [e2] X.env)).any (·.1) = false := by rfl) :
    PI X (.Tuple elts kk tpos) (.Call (.Name "zip" p) [e, e2] [] pos) (iMix X.K ta) := by
  refine ⟨fun pins s σ H R I h => ?_⟩
  refine Call_ (ld_blt I hg hm PyProof.Rows.boot_zip (PyProof.Rows.callWith_type1 (thn (ha.run pos pins s σ H _ I h) fun us s1 ⟨vs, H1, I1, r1, q1⟩ => ?_) hs hpl))
  obtain ⟨a, b, xs, ys, ex, hqx, hqy, q⟩ := q1
  subst ex
  cases r1 with
  | cons r rr =>
    cases rr with
    | cons r' rr =>
      cases rr
      cases r
      cases r'
      obtain ⟨us, ru, p1, _⟩ := I1.list hqx
      obtain ⟨ws, rw', p2, _⟩ := I1.tuple hqy
      obtain ⟨o2, ho2, _⟩ := id p2
      refine call_mixed p1.isList (show s1.heap.IsTuple b ws.toArray from p2) fun h' n en hz hTI hTO h1 h2 hk => wpAny_pyIter_zip hz ?_
      have I2 : Inv X pins σ H1 { s1 with heap := h' } := I1.kept (t' := s1.toks) hk
      subst en
      refine ⟨s1.heap.objs.size + 4, [s1.heap.objs.size + 4, s1.heap.objs.size + 2, s1.heap.objs.size + 3, s1.heap.objs.size, s1.heap.objs.size + 1], _, _, H1, rfl, I2, turn_mixed (PySem.W.ktu_apart s1.heap.objs.size a b p1.lt (Heap.lt_size ho2)), ⟨hz, hTI, ⟨_, _, hTO⟩, h1, h2⟩, fun c hc => ?_, q⟩
      have le : s1.heap.objs.size ≤ c := by
        simp only [List.mem_cons, List.not_mem_nil, or_false] at hc
        rcases hc with h | h | h | h | h <;> rw [h]
        · exact Nat.le_add_right _ _
        · exact Nat.le_add_right _ _
        · exact Nat.le_add_right _ _
        · exact Nat.le_refl _
        · exact Nat.le_add_right _ _
      exact I1.fpOk le (I1.hok.fresh le)
end ZM

/-! (a, b, c) != (a', b', c') of things that are equal one by one, dicts among them -/
namespace T3
open PySem PySem.Spec PyProof.Rows L2 PySem.W PySem.SeqAt
open AutoSeq1 (wpAny_loadPart')
open MeetsSeq MeetsSeq2 MeetsSeq3
/-- == of two objects that lie apart is True -/
def Same1 (prog : Program) (w : World) (A : Around) (s : Shared) (a b : Addr) : Prop := a ≠ b ∧ ∀ (E Q : Value → Shared → Prop), Q (.bool true) s → wpAny (model prog w) A (richCompare .Eq (.ref a) (.ref b)) Q E s
theorem tup3_ne {prog : Program} {w : World} (l b : Addr) (x1 x2 x3 y1 y2 y3 : Addr) (n n2 : Nat) (dd dd2 : Option Addr) (sl sl2 : Array (Option Value)) :
    MeetsIn prog w (Builtin.«tuple.__ne__» ⟨[.ref l, .ref b], []⟩) (fun A R s => s.heap.get? l = some { cls := .type "tuple", dict := dd, data := .seq #[.ref x1, .ref x2, .ref x3] n, slots := sl } ∧
      s.heap.get? b = some { cls := .type "tuple", dict := dd2, data := .seq #[.ref y1, .ref y2, .ref y3] n2, slots := sl2 } ∧ (Same1 prog w A.in1 s x1 y1 ∧ Same1 prog w A.in1 s x2 y2 ∧ Same1 prog w A.in1 s x3 y3) ∧ R (.ok (.ret (.bool false))) s) :=
  .of_wp fun A R s h => by
    obtain ⟨hp, g, d, tk, os⟩ := s
    obtain ⟨hl, hb, ⟨h1, h2, h3⟩, h⟩ := h
    have f2 := AutoSeq1.sub_tuple_tuple
    have apart : ∀ {a b : Addr}, a ≠ b → ¬ ((Value.ref a == Value.ref b) = true) := fun h e => h (by have := eq_of_beq e; injection this)
    wp_walk using wpAny_loadPart' hl, wpAny_loadPart' hb
    refine wpAny_ite_split (fun z => absurd z (apart h1.1)) fun _ => wpAny_bind (h1.2 _ _ (wpAny_truthy_bool ?_))
    wp_walk
    refine wpAny_ite_split (fun z => absurd z (apart h2.1)) fun _ => wpAny_bind (h2.2 _ _ (wpAny_truthy_bool ?_))
    wp_walk
    refine wpAny_ite_split (fun z => absurd z (apart h3.1)) fun _ => wpAny_bind (h3.2 _ _ (wpAny_truthy_bool ?_))
    wp_walk
    exact ⟨_, rfl, h⟩
section
variable {X : Cx}
/-- a dict of objects, the same ones in both -/
theorem dict_same {pins : List (Addr × Obj)} {σ : L2.St} {H : Hp} {s : Shared} {d e : Addr} {ps : List (Key × V)} (I : Inv X pins σ H s) (ne : d ≠ e) (hd : H d = some (.dK ps)) (he : H e = some (.dK ps)) (refs : ∀ p ∈ ps, ∃ a, p.2 = .ref a) (nd : (ps.map (·.1)).Nodup) {A : Around} (hu : A.units + 4 < cLine) : Same1 X.prog X.w A s d e := by
  refine ⟨ne, fun E Q hq => ?_⟩
  obtain ⟨_, y1, v1, r1, o1⟩ := (show ObjOk X.prog X.w H s.heap d (.dK ps) from I.hok d _ hd)
  obtain ⟨_, y2, v2, r2, o2⟩ := (show ObjOk X.prog X.w H s.heap e (.dK ps) from I.hok e _ he)
  have eqv : ∀ {ps : List (Key × V)} {v1 v2 : List (Key × Value)}, (∀ p ∈ ps, ∃ a, p.2 = .ref a) → KV ps v1 → KV ps v2 → v1 = v2 := by
    intro ps v1 v2 refs r1
    induction r1 generalizing v2 with
    | nil => intro r2; cases r2; rfl
    | cons h t ih =>
      intro r2
      cases r2 with
      | cons h' t' =>
        rw [ih (fun p hp => refs p (List.mem_cons_of_mem _ hp)) t']
        obtain ⟨a, ea⟩ := refs _ List.mem_cons_self
        obtain ⟨k1, q1⟩ := h
        obtain ⟨k2, q2⟩ := h'
        rw [ea] at q1 q2
        congr 1
        exact Prod.ext (k1.symm.trans k2) ((show _ = Value.ref a from q1).trans (show _ = Value.ref a from q2).symm)
  have ev := eqv refs r1 r2
  subst ev
  have nv : (v1.map (·.1)).Nodup := by
    have : v1.map (·.1) = ps.map (·.1) := by
      have go : ∀ {ps : List (Key × V)} {vs : List (Key × Value)}, KV ps vs → vs.map (·.1) = ps.map (·.1) := by
        intro ps vs r
        induction r with
        | nil => rfl
        | cons h t ih => rw [List.map_cons, List.map_cons, ih, h.1]
      exact go r1
    rw [this]
    exact nd
  have at_ : ∀ k v, (k, v) ∈ v1 → valueAt v1 k = some v := fun k v hm => by
    have go : ∀ {vs : List (Key × Value)}, (vs.map (·.1)).Nodup → (k, v) ∈ vs → valueAt vs k = some v := by
      intro vs
      induction vs with
      | nil => intro _ h; exact (nomatch h)
      | cons q vs ih =>
        intro n h
        rw [List.map_cons, List.nodup_cons] at n
        unfold valueAt
        rcases List.mem_cons.mp h with z | z
        · rw [← z]
          simp
        · have : ¬ q.1 = k := fun z' => n.1 (List.mem_map.mpr ⟨(k, v), z, z'.symm⟩)
          have i := ih n.2 z
          unfold valueAt at i
          simp [List.find?_cons, this, i]
    exact go nv hm
  have hits := KeqHitsIn.of (prog := X.prog) (w := X.w) (A := A.in1) (s := s) (kb := v1) (e := fun _ => true) v1 fun k v y hm hy => by
    rw [at_ k v hm] at hy
    cases hy
    exact (EqTree.same (n := 1)).at A.in1 (by show A.units + 1 + 1 < cLine; omega)
  have all : (v1.all fun p => (valueAt v1 p.1).isSome && true) = true := by
    rw [List.all_eq_true]
    intro p hp
    rw [at_ p.1 p.2 hp]
    rfl
  rw [all] at hits
  exact keq_eqIn (knd := mixKind X.prog X.w) y1 y2 o1 o2 (by omega) (fun _ => hits) (by simpa using hq)
/-- data that are equal -/
theorem data_same {pins : List (Addr × Obj)} {σ : L2.St} {H : Hp} {s : Shared} {d e : Addr} {D : PyData} (I : Inv X pins σ H s) (ne : d ≠ e) (hd : Dp X.K H (.ref d) D) (he : Dp X.K H (.ref e) D) (sh : SeqAt.shaped D = true) {A : Around} (hu : A.units + 66 < cLine) : Same1 X.prog X.w A s d e := by
  refine ⟨ne, fun E Q hq => ?_⟩
  obtain ⟨as, r1⟩ := Dp.reads I D (.ref d) (.ref d) hd rfl
  obtain ⟨bs, r2⟩ := Dp.reads I D (.ref e) (.ref e) he rfl
  have pl := PyData.plain_of_canLay0 D (SeqAt.canLay_of_shaped sh)
  have dd := SeqAt.depth_of_shaped sh
  have h := rcAt_plain r1 r2 pl pl (A := A) (by have := Nat.min_le_left D.depth D.depth; omega)
  rw [SeqAt.eqv_refl_plain D pl] at h
  exact h X.prog X.w E Q hq
/-- (dict, list, list) != copies of these -/
def rNe3 (K : PySem.W.Frag) : R2 := fun x y H Q => ∃ (l b d e r r2 n n2 : Addr) (ps : List (Key × V)) (D1 D2 : PyData), x = .ref l ∧ y = .ref b ∧ SqT K H l [.ref d, .ref r, .ref n] ∧ SqT K H b [.ref e, .ref r2, .ref n2] ∧
  (d ≠ e ∧ H d = some (.dK ps) ∧ H e = some (.dK ps) ∧ (∀ p ∈ ps, ∃ a, p.2 = .ref a) ∧ (ps.map (·.1)).Nodup) ∧ (r ≠ r2 ∧ Dp K H (.ref r) D1 ∧ Dp K H (.ref r2) D1 ∧ SeqAt.shaped D1 = true) ∧ (n ≠ n2 ∧ Dp K H (.ref n) D2 ∧ Dp K H (.ref n2) D2 ∧ SeqAt.shaped D2 = true) ∧ Q (.bl false) H
theorem op_ne3 (hu : X.A.units + 70 < cLine) : OpR X (compareOp .NotEq) (rNe3 X.K) := by
  intro pins s σ H x y v u Q I rx ry h
  obtain ⟨l, b, d, e, r, r2, n, n2, ps, D1, D2, rfl, rfl, tl, tb, ⟨a1, a2, a3, a4, a5⟩, ⟨b1, b2, b3, b4⟩, ⟨c1, c2, c3, c4⟩, q⟩ := h
  cases rx
  cases ry
  have three : ∀ {x1 x2 x3 : Addr} {us : List Value}, Vals [.ref x1, .ref x2, .ref x3] us → us = [.ref x1, .ref x2, .ref x3] := by
    intro x1 x2 x3 us r
    cases r with
    | cons h1 t1 => cases t1 with
      | cons h2 t2 => cases t2 with
        | cons h3 t3 =>
          cases t3
          cases h1
          cases h2
          cases h3
          rfl
  obtain ⟨i1, v1, ⟨⟨cl1, dd1, dt1, sl1⟩, ho1, hc1, m1, hd1⟩, _⟩ := I.tuple tl
  obtain ⟨i2, v2, ⟨⟨cl2, dd2, dt2, sl2⟩, ho2, hc2, m2, hd2⟩, _⟩ := I.tuple tb
  have e1 := three v1
  have e2 := three v2
  subst e1 e2
  simp only at hc1 hd1 hc2 hd2
  subst hc1 hd1 hc2 hd2
  have hin : X.A.in1.units + 66 < cLine := by
    show X.A.units + 1 + 66 < cLine
    omega
  exact wpAny_richCompare_same_room (T := "tuple") (op := .NotEq) ⟨_, ho1, rfl⟩ ⟨_, ho2, rfl⟩ F.slot_tuple_ne (call_meetsIn F.slot_tuple_ne ⟨_, ho1, rfl⟩ F.entry_tuple_ne (F.args_tuple_ne_2 _ _) (tup3_ne l b d r n e r2 n2 m1 m2 dd1 dd2 sl1 sl2)
    ⟨ho1, ho2, ⟨dict_same I a1 a2 a3 a4 a5 (by omega), data_same I b1 b2 b3 b4 hin, data_same I c1 c2 c3 c4 hin⟩, ⟨(fun z => nomatch z), fin_bl I q rfl⟩⟩) (by omega)
end
end T3

namespace My
open PySem PySem.Spec PyProof.Rows L2 GX GxR
abbrev s_scRight : Stmt := topS 36
abbrev n_scRight : List Str := ["_law_dues", "_law_rows", "_law_names", "_law_gang_here", "_law_kept", "_law_due_here", "_law_turn", "_law_found", "_law_pair"]
theorem scRight : FnScope n_scRight ["_law_dues", "_law_rows", "_law_names", "_law_gang_here"] (defScope s_scRight) := ⟨rfl, rfl, rfl, by decide +kernel, rfl, by decide +kernel, by decide +kernel⟩
theorem _root_.L2.Room.units70 {k : Nat} {A : Around} (r : Room k A) : A.units + 70 < cLine := by
  have := r.un
  omega
def spR28 (K : PySem.W.Frag) (Ts : List Addr) : Sp := fun vs H Q _ => ∃ (d a n g : Addr) (wr : Nat) (kvs : List (Str × List Int)) (as : List Addr) (Rs : List (Gang × Int)) (G : Gang) (zs : List Str), vs = [.ref d, .ref a, .ref n, .ref g] ∧ RI K H d a g wr kvs as Rs G ∧ H n = some (.lst (zs.map V.str)) ∧ (∀ z ∈ zs, PySem.PyData.strOk z = true) ∧ Tabs Ts H ∧ ∀ H', Fw Ts H H' → Q (.bl true) H'
section
variable {P : Program} {w : World} {K : PySem.W.Frag} {mg : Str → Option Value} {base : Heap}
theorem ok_right {f fT fA fM : Addr} {fd fdT fdA fdM : FuncData} {k : Nat} {Ts : List Addr} (F : Fun K "_law_right" "_law_right" s_scRight f fd) (X : Txt mg) (mDict : mg "dict" = none)
    (GT : FnOk P w K mg base CX0 k fT fdT ["_law_dues", "_law_rows", "_law_gang_here"] (spTaken K)) (mT : mg "_law_taken" = some (.ref fT)) (kT : PySem.W.keepIn K (.ref fT) = true) (bT : L2.Binds K fdT ["_law_dues", "_law_rows", "_law_gang_here"] [])
    (GA : FnOk P w K mg base CX0 k fA fdA ["_law_found", "_law_due_here"] (spSame 2)) (mA : mg "_law_same" = some (.ref fA)) (kA : PySem.W.keepIn K (.ref fA) = true) (bA : L2.Binds K fdA ["_law_found", "_law_due_here"] [])
    (GM : FnOk P w K mg base CX0 k fM fdM ["dues", "rows", "names", "gang"] (spMay K Ts)) (mM : mg "may_take" = some (.ref fM)) (kM : PySem.W.keepIn K (.ref fM) = true) (bM : L2.Binds K fdM ["dues", "rows", "names", "gang"] []) :
    FnOk P w K mg base CX0 (k + 1) f fd ["_law_dues", "_law_rows", "_law_names", "_law_gang_here"] (spR28 K Ts) := by
  refine F.ok scRight (fun vs H Q E h => ?_) (fun cdv A outer s H vs Q E hr h => ?_)
  · obtain ⟨d, a, n, g, wr, kvs, as, Rs, G, zs, rfl, _⟩ := h
    rfl
  · obtain ⟨d, a, n, g, wr, kvs, as, Rs, G, zs, rfl, J, en, zok, tH, q⟩ := h
    have I := J.dr
    have few := I.few
    have la : as.length = Rs.length := I.prs.length
    obtain ⟨ps, ed, pds⟩ : ∃ ps : List (Key × V), H d = some (.dK ps) ∧ Paired (DueAt H) ps kvs := by
      obtain ⟨ps, h1⟩ := J.dd
      obtain ⟨ps', h2, h3⟩ := I.dues
      rcases h2 with e | ⟨od, e⟩
      · exact ⟨ps', e, h3⟩
      · rw [h1] at e
        cases e
    refine ⟨_, (pss_cons (ps_set (i := 4) scRight.nd rfl (.inl rfl) (pe_tup (pa_cons (pe_callTy call_dictD (by rfl) mDict (by decide +kernel) (pa_cons (pv 0) pa_nil)) (pa_cons (pe_callTy call_list_of (by rfl) X.lst bt_list (pa_cons (pv 1) pa_nil)) (pa_cons (pe_callTy call_list_of (by rfl) X.lst bt_list (pa_cons (pv 2) pa_nil)) pa_nil)))))
      (pss_cons (ps_setLc (i := 5) (own := [("_law_pair", 8)]) (g := (gName 8)) rfl scRight.nd rfl rfl (sw_true rfl rfl rfl (by decide +kernel)) (pi_list (pe_call GT hr (by rfl) mT kT bT .nil pass0 (pa_cons (pv 0) (pa_cons (pv 1) (pa_cons (pv 3) pa_nil))))) (blkOk_by (own := [("_law_pair", 8)]) (N := n_scRight) (sc := defScope s_scRight) (by decide +kernel)) (fun _ _ _ _ _ => (pg_name (i := 8) scRight.nd rfl (.inl rfl))) (fun _ _ _ _ _ => pts_one (pt_cmpR (r := rIn K false) op_in_seq (pe_ix (r := rIxT K) ix_tup (pv 8) pe_int (fun _ _ => rfl)) (pv 2) (by rfl))) (fun _ _ _ _ _ => (pv 8)))
      (C8.pss_cut (ps_for PassesOwn.never rfl (pi_range1 (by rfl) X.range (pa_cons pe_int pa_nil)) (pg_name (i := 6) scRight.nd rfl (.inl rfl))
        (pss_cons (ps_set (i := 7) scRight.nd rfl (.inl rfl) (pe_call GM hr (by rfl) mM kM bM .nil pass0 (pa_cons (pv 0) (pa_cons (pv 1) (pa_cons (pv 2) (pa_cons (pv 3) pa_nil))))))
        (C8.pss_cut (ps_if (PW.pt (pw_or (pt_not (pt_val (pe_call GA hr (by rfl) mA kA bA .nil pass0 (pa_cons (pv 7) (pa_cons (pv 5) pa_nil))))) (pw_or1 (pt_cmpR (T3.op_ne3 hr.units70) (pe_tup (pa_cons (pv 0) (pa_cons (pv 1) (pa_cons (pv 2) pa_nil)))) (pv 4) (nomark _)))))
          (pss_one (ps_ret pe_bl))
          pss_nil)
        (pss_cons (ps_expr (pe_bm PySem.F.plainAttrs_list PySem.F.slot_list_append PySem.F.type_list_append mt_append (pv 7) (pa_cons (pe_tup (pa_cons pe_str (pa_cons pe_str pa_nil))) pa_nil)))
        (pss_one (ps_expr (pe_bm0 PySem.F.plainAttrs_list PySem.F.slot_list_reverse PySem.F.type_list_reverse mt_reverse (pv 7))))))))
      (pss_one (ps_ret pe_bl))))), ?_⟩
    -- kept
    refine ⟨_, rfl, d, ps, rfl, .inl ed, fun kd nkd => ?_⟩
    have sa := same_upd (o := .dK ps) nkd
    have ea : upd H kd (.dK ps) kd = some (.dK ps) := upd_same
    generalize upd H kd (.dK ps) = Ha at sa ea ⊢
    refine ⟨_, rfl, a, _, rfl, .inl (SqL.of (sa _ _ J.la)), fun kr nkr => ?_⟩
    have sb := same_upd (o := .lst (as.map V.ref)) nkr
    have eb : upd Ha kr (.lst (as.map V.ref)) kr = some (.lst (as.map V.ref)) := upd_same
    generalize upd Ha kr (.lst (as.map V.ref)) = Hb at sb eb ⊢
    refine ⟨_, rfl, n, _, rfl, .inl (SqL.of ((sa.trans sb) _ _ en)), fun kn nkn => ?_⟩
    have sc := same_upd (o := .lst (zs.map V.str)) nkn
    have ec : upd Hb kn (.lst (zs.map V.str)) kn = some (.lst (zs.map V.str)) := upd_same
    generalize upd Hb kn (.lst (zs.map V.str)) = Hc at sc ec ⊢
    refine ⟨by show 3 ≤ sizeLine; decide, fun kt nkt => ?_⟩
    have sd := same_upd (o := .tup [.ref kd, .ref kr, .ref kn]) nkt
    have ek : upd Hc kt (.tup [.ref kd, .ref kr, .ref kn]) kt = some (.tup [.ref kd, .ref kr, .ref kn]) := upd_same
    generalize upd Hc kt (.tup [.ref kd, .ref kr, .ref kn]) = H1 at sd ek ⊢
    have s1 : Same H H1 := ((sa.trans sb).trans sc).trans sd
    have ekd : H1 kd = some (.dK ps) := ((sb.trans sc).trans sd) _ _ ea
    have ekr : H1 kr = some (.lst (as.map V.ref)) := (sc.trans sd) _ _ eb
    have ekn : H1 kn = some (.lst (zs.map V.str)) := sd _ _ ec
    have n1 : d ≠ kd := fun z => by
      rw [← z, ed] at nkd
      cases nkd
    have n2 : a ≠ kr := fun z => by
      rw [← z, sa _ _ J.la] at nkr
      cases nkr
    have n3 : n ≠ kn := fun z => by
      rw [← z, (sa.trans sb) _ _ en] at nkn
      cases nkn
    have f1 := Fw.same tH s1
    have t1 := f1.tabs
    have J1 := J.fw tH f1
    have en1 := s1 _ _ en
    -- what is due
    refine ⟨_, rfl, _, rfl, _, rfl, d, a, g, wr, kvs, as, Rs, G, rfl, J1.dr, J1.dd, J1.la, J1.l12, J1.at_, J1.fit, J1.wl, J1.gg, fun pt Hd us se npt ept ptt => ⟨pt, rfl, ⟨_, SqL.of ept⟩, fun D nD => ?_⟩⟩
    have lT := takenR_len kvs Rs G
    have lus : us.length ≤ 60 := by
      rw [ptt.length, taken_rows, List.length_map]
      omega
    refine lc_list (K := K) (a := pt) (xs := us.map V.ref) (fun j H' => Same Hd H' ∧ ∃ bs : List Addr, H' D = some (.lst (bs.map V.ref)) ∧ bs.length ≤ j ∧ Paired (TelAt H') bs (((takenL kvs Rs G).take j).filter fun p => inV (.str p.1) (zs.map V.str)))
      ⟨same_upd nD, [], upd_same, Nat.le_refl _, .nil⟩ (fun j H' _ p => SqL.of (p.1 _ _ ept)) (fun j x HC hx p => ?_) (fun H2 p => ?_)
    · obtain ⟨p1, bs, p2, p3, p4⟩ := p
      obtain ⟨ta, hta, rfl⟩ := map_get hx
      have hj : j < us.length := (List.getElem?_eq_some_iff.mp hta).1
      obtain ⟨pp, hpp, tel⟩ := paired_get ptt hta
      have tel2 : TelAt HC ta pp := p1 _ _ tel
      refine ⟨rfl, ?_⟩
      refine ⟨_, rfl, ta, _, 0, .str pp.1, rfl, rfl, SqT.of tel2, rfl, _, rfl, n, _, rfl, .inl (SqL.of ((se.trans p1) _ _ en1)), rfl, flat_strs _, _, rfl, ite2 (fun e => ?_) (fun e => ?_)⟩
      · replace e : inV (.str pp.1) (zs.map V.str) = true := e
        have kt : KTu HC (upd HC D (.lst (bs.map V.ref ++ [V.ref ta]))) := kt_put p2 (fun xs z => by cases z)
        refine ⟨_, rfl, _, p2, ?_, same_put p1 nD, bs ++ [ta], ?_, ?_, ?_⟩
        · rw [List.length_map]
          exact small63 (by omega)
        · rw [upd_same, List.map_append]
          rfl
        · rw [List.length_append]
          show bs.length + 1 ≤ j + 1
          omega
        · rw [List.take_add_one, hpp, List.filter_append, Option.toList_some, List.filter_cons_of_pos (p := fun p : Str × Str => inV (.str p.1) (zs.map V.str)) e]
          exact Paired.snoc (p4.mono fun _ _ x => x.kt kt) (tel2.kt kt)
      · replace e : ¬ inV (.str pp.1) (zs.map V.str) = true := e
        refine ⟨p1, bs, p2, by omega, ?_⟩
        rw [List.take_add_one, hpp, List.filter_append, Option.toList_some, List.filter_cons_of_neg (p := fun p : Str × Str => inV (.str p.1) (zs.map V.str)) e, List.filter_nil, List.append_nil]
        exact p4
    obtain ⟨sf, bs, eD, lbs, pbs⟩ := p
    rw [List.length_map, List.take_of_length_le (by rw [ptt.length]; exact Nat.le_refl _)] at pbs
    have em : ((takenL kvs Rs G).filter fun p => inV (.str p.1) (zs.map V.str)) = mayL kvs Rs zs G := by
      rw [may_taken]
      refine List.filter_congr fun p _ => ?_
      rw [inV_strs]
    rw [em] at pbs
    have s12 := se.trans sf
    have s02 := s1.trans s12
    have f2 := Fw.same tH s02
    have t2 := f2.tabs
    refine ⟨fun σ H' => Fw Ts H2 H', ?_, fun σ H' hm => q _ (f2.trans hm)⟩
    refine ⟨2, rfl, by decide, by decide, ?_⟩
    refine for_range (lo := 0) (fun i σ H' => ∃ (y6 y7 : Option V), σ = [some (.ref d), some (.ref a), some (.ref n), some (.ref g), some (.ref kt), some (.ref D), y6, y7, none] ∧ Fw Ts H2 H')
      ⟨none, none, rfl, Fw.refl t2⟩ (fun i σ H3 hi p => ?_) (fun σ H3 p => ?_)
    · obtain ⟨y6, y7, rfl, f3⟩ := p
      have f03 := f2.trans f3
      have J3 := J.fw tH f03
      refine ⟨_, rfl, _, rfl, _, rfl, _, rfl, d, a, n, g, wr, kvs, as, Rs, zs, G, rfl, J3.dr, SqL.of (f03.lst tH en), J3.at_, J3.fit, J3.wl, J3.gg, J3.no, f3.tabs, fun p H4 ts f4 np ep pts => ?_⟩
      have f34 := f3.trans f4
      have f04 := f2.trans f34
      have lml := may_len kvs Rs zs G
      have lts : ts.length ≤ 60 := by
        rw [pts.length]
        omega
      refine ⟨fun σ H' => σ = [some (.ref d), some (.ref a), some (.ref n), some (.ref g), some (.ref kt), some (.ref D), some (.int (0 + (i : Int))), some (.ref p), none] ∧ Same H4 H', ?_, fun σ H5 hm => ?_⟩
      · have eD4 := f34.lst t2 eD
        have pb4 : Paired (TelAt H4) bs (mayL kvs Rs zs G) := pbs.mono fun _ _ x => x.kt (f34.kt t2)
        refine ⟨_, rfl, _, rfl, _, _, rfl, sm_lst (n := 1) ep eD4 (by rw [List.length_map]; omega) (prs_tels pts pb4), fun H5 s5 => ⟨true, rfl, ?_⟩⟩
        refine iteF ⟨_, rfl, _, rfl, _, rfl, by show 3 ≤ sizeLine; decide, fun tq ntq => ?_⟩
        have s6 := s5.trans (same_upd (o := .tup [.ref d, .ref a, .ref n]) ntq)
        have e6 : upd H5 tq (.tup [.ref d, .ref a, .ref n]) tq = some (.tup [.ref d, .ref a, .ref n]) := upd_same
        generalize upd H5 tq (.tup [.ref d, .ref a, .ref n]) = H6 at s6 e6 ⊢
        have f6 := f04.then s6
        have f16 : Fw Ts H1 H6 := (Fw.same t1 s12).trans (f34.then s6)
        have dR : ∀ {x : Addr}, H6 x = some (.lst (as.map V.ref)) → Dp K H6 (.ref x) (.list (Rs.map rowD)) := fun e => .lst (SqL.of e) (dp_rows (I.prs.mono fun _ _ x => x.kt (f6.kt tH)))
        have dN : ∀ {x : Addr}, H6 x = some (.lst (zs.map V.str)) → Dp K H6 (.ref x) (.list (zs.map PyData.str)) := fun e => .lst (SqL.of e) (dp_strs _)
        refine ⟨_, rfl, tq, kt, d, kd, a, kr, n, kn, ps, .list (Rs.map rowD), .list (zs.map PyData.str), rfl, rfl, SqT.of e6, SqT.of (f16.kt t1 _ _ ek), ⟨n1, f6.obj tH ed fun pp z => (by cases z), f16.obj t1 ekd fun pp z => (by cases z), fun p hp => ?_, ?_⟩, ⟨n2, dR (f6.lst tH J.la), dR (f16.lst t1 ekr), sh_rows I.good.fit⟩, ⟨n3, dN (f6.lst tH en), dN (f16.lst t1 ekn), sh_strs zok⟩, _, rfl, iteF ⟨rfl, s6⟩⟩
        · obtain ⟨i, hi⟩ := List.mem_iff_getElem?.mp hp
          obtain ⟨kv, _, _, av, e, _⟩ := paired_get pds hi
          exact ⟨av, e⟩
        · rw [due_keys pds]
          exact keys_nd I.keys
      obtain ⟨rfl, s5⟩ := hm
      have np2 : H2 p = none := f3.free t2 np
      refine ⟨_, rfl, .inl ⟨rfl, _, SqL.of (s5 _ _ ep)⟩, by show 2 ≤ sizeLine; decide, fun tt ntt => ?_⟩
      have s6 := s5.trans (same_upd (o := .tup [.str "more", .str "rank"]) ntt)
      have e6 := same_upd (o := .tup [.str "more", .str "rank"]) ntt _ _ (s5 _ _ ep)
      generalize upd H5 tt (.tup [.str "more", .str "rank"]) = H6 at s6 e6 ⊢
      refine ⟨p, _, _, rfl, rfl, e6, ?_, ?_⟩
      · rw [List.length_map]
        exact small63 (by omega)
      have f7 : Fw Ts H2 (upd H6 p (.lst (ts.map V.ref ++ [V.ref tt]))) := (f34.then s6).put t2 np2
      have e7 : upd H6 p (.lst (ts.map V.ref ++ [V.ref tt])) p = some (.lst (ts.map V.ref ++ [V.ref tt])) := upd_same
      generalize upd H6 p (.lst (ts.map V.ref ++ [V.ref tt])) = H7 at f7 e7 ⊢
      refine ⟨_, rfl, .inl ⟨rfl, _, SqL.of e7⟩, p, _, rfl, rfl, e7, ?_⟩
      exact ⟨_, _, rfl, f7.put t2 np2⟩
    · obtain ⟨_, _, _, fw⟩ := p
      exact fw
end
end My

namespace My
open PySem PySem.Spec PyProof.Rows L2 GX GxR
abbrev s_scLaw : Stmt := topS 37
abbrev n_scLaw : List Str := ["_law_script", "_law_dues", "_law_rows", "_law_gang_here", "_law_names", "_law_box_here", "_law_some", "_law_mixed", "_law_one", "_law_row", "_law_name"]
theorem scLaw : FnScope n_scLaw ["_law_script"] (defScope s_scLaw) := ⟨rfl, rfl, rfl, by decide +kernel, rfl, by decide +kernel, by decide +kernel⟩
section
variable {P : Program} {w : World} {K : PySem.W.Frag} {mg : Str → Option Value} {base : Heap}
theorem cut_last (xs : List V) : cutV xs none (some (-1)) = xs.take (xs.length - 1) := by
  unfold cutV
  rw [HT.sIx_none, List.drop_zero, sIx_last, Nat.sub_zero]
theorem may_none (kvs : List (Str × List Int)) (Rs : List (Gang × Int)) (G : Gang) : mayL kvs Rs [] G = [] := by
  rw [may_taken]
  exact List.filter_eq_nil_iff.mpr fun p _ => by simp
theorem ok_law {f fS fR fM fB fT : Addr} {fd fdS fdR fdM fdB fdT : FuncData} {k : Nat} {Ts : List Addr} (F : Fun K "law" "law" s_scLaw f fd) (X : Txt mg) (mRev : mg "reversed" = none)
    (GS : FnOk P w K mg base CX0 k fS fdS ["_law_script"] (spState K)) (mS : mg "_law_state" = some (.ref fS)) (kS : PySem.W.keepIn K (.ref fS) = true) (bS : L2.Binds K fdS ["_law_script"] [])
    (GR : FnOk P w K mg base CX0 k fR fdR ["_law_dues", "_law_rows", "_law_names", "_law_gang_here"] (spR28 K Ts)) (mR : mg "_law_right" = some (.ref fR)) (kR : PySem.W.keepIn K (.ref fR) = true) (bR : L2.Binds K fdR ["_law_dues", "_law_rows", "_law_names", "_law_gang_here"] [])
    (GM : FnOk P w K mg base CX0 k fM fdM ["dues", "rows", "names", "gang"] (spMay K Ts)) (mM : mg "may_take" = some (.ref fM)) (kM : PySem.W.keepIn K (.ref fM) = true) (bM : L2.Binds K fdM ["dues", "rows", "names", "gang"] [])
    (GB : FnOk P w K mg base CX0 k fB fdB ["_law_script", "_law_k"] (spBox K)) (mB : mg "_law_box" = some (.ref fB)) (kB : PySem.W.keepIn K (.ref fB) = true) (bB : L2.Binds K fdB ["_law_script", "_law_k"] [])
    (GT : FnOk P w K mg base CX0 k fT fdT ["_law_box_here", "_law_many"] spTakeW) (mT : mg "_law_take" = some (.ref fT)) (kT : PySem.W.keepIn K (.ref fT) = true) (bT : L2.Binds K fdT ["_law_box_here", "_law_many"] []) :
    FnOk P w K mg base CX0 (k + 1) f fd ["_law_script"] (spLaw K Ts) := by
  refine F.ok scLaw (fun vs H Q E h => ?_) (fun cdv A outer s H vs Q E hr h => ?_)
  · obtain ⟨a, ns, rfl, _⟩ := h
    rfl
  · obtain ⟨a, ns, rfl, hS, hl, hT, q⟩ := h
    refine ⟨_, (pss_cons (ps_asg (pe_call GS hr (by rfl) mS kS bS .nil pass0 (pa_cons (pv 0) pa_nil)) (pg_tup rfl (pgs_cons (pg_name (i := 1) scLaw.nd rfl (.inl rfl)) (pgs_cons (pg_name (i := 2) scLaw.nd rfl (.inl rfl)) (pgs_cons (pg_name (i := 3) scLaw.nd rfl (.inl rfl)) pgs_nil)))))
      (pss_cons (ps_setLc (i := 4) (own := [("_law_row", 9)]) (g := (gName 9)) (tt := tYes) rfl scLaw.nd rfl rfl (sw_true rfl rfl rfl (by decide +kernel)) (pi_list (pv 2)) (blkOk_by (own := [("_law_row", 9)]) (N := n_scLaw) (sc := defScope s_scLaw) (by decide +kernel)) (fun _ _ _ _ _ => (pg_name (i := 9) scLaw.nd rfl (.inl rfl))) (fun _ _ _ _ _ => pts_nil) (fun _ _ _ _ _ => (pe_ix (r := rIxT K) ix_tup (pe_ix (r := rIxT K) ix_tup (pv 9) pe_int (fun _ _ => rfl)) pe_int (fun _ _ => rfl))))
      (pss_cons (ps_set (i := 5) scLaw.nd rfl (.inr rfl) (pe_call GB hr (by rfl) mB kB bB .nil pass0 (pa_cons (pv 0) (pa_cons (pe_op op_fdiv (pe_callB call_len_seq (by rfl) X.len PySem.boot_len (pa_cons (pv 0) pa_nil)) pe_int) pa_nil))))
      (pss_cons (ps_setLc (i := 6) (own := [("_law_name", 10)]) (g := (gName 10)) rfl scLaw.nd rfl rfl (sw_true rfl rfl rfl (by decide +kernel)) (pi_list (pv 4)) (blkOk_by (own := [("_law_name", 10)]) (N := n_scLaw) (sc := defScope s_scLaw) (by decide +kernel)) (fun _ _ _ _ _ => (pg_name (i := 10) scLaw.nd rfl (.inl rfl))) (fun _ _ _ _ _ => pts_one (pt_cmpR op_gt (pe_call GT hr (by rfl) mT kT bT .nil pass0 (pa_cons (pv 5) (pa_cons pe_int pa_nil))) pe_int (nomark _))) (fun _ _ _ _ _ => (pv 10)))
      (pss_cons (ps_set (i := 7) scLaw.nd rfl (.inl rfl) (pe_op op_cat (pe_op op_cat (pe_lstRev rfl (by rfl) X.lst (by rfl) mRev (pv 6)) (pe_lst (pa_cons pe_str pa_nil))) (pe_slice sl_list (pv 6) po_none (po_some pe_int))))
      (C8.pss_cut (ps_if (PW.pt (pw_or (pt_not (pt_val (pe_call GR hr (by rfl) mR kR bR .nil pass0 (pa_cons (pv 1) (pa_cons (pv 2) (pa_cons (pv 4) (pa_cons (pv 3) pa_nil))))))) (pw_or1 (pt_not (pt_val (pe_call GR hr (by rfl) mR kR bR .nil pass0 (pa_cons (pv 1) (pa_cons (pv 2) (pa_cons (pv 7) (pa_cons (pv 3) pa_nil))))))))))
        (pss_one (ps_ret pe_bl))
        pss_nil)
      (C8.pss_cut (ps_if (pt_cmpR (op_eqD hr.units) (pv 2) (pe_lst pa_nil) (nomark _))
        (pss_one (ps_ret pe_bl))
        pss_nil)
      (pss_cons (ps_set (i := 8) scLaw.nd rfl (.inl rfl) (pe_ix ix_tup (pe_ix ix_list (pv 2) (pe_un un_neg pe_int) (fun _ _ => rfl)) pe_int (fun _ _ => rfl)))
      (C8.pss_cut (ps_if (pt_cmpR (op_neD hr.units) (pe_call GM hr (by rfl) mM kM bM .nil pass0 (pa_cons (pv 1) (pa_cons (pv 2) (pa_cons (pe_lst pa_nil) (pa_cons (pv 3) pa_nil))))) (pe_lst pa_nil) (nomark _))
        (pss_one (ps_ret pe_bl))
        pss_nil)
      (pss_one (ps_ret (pe_call GR hr (by rfl) mR kR bR .nil pass0 (pa_cons (pv 1) (pa_cons (pe_slice sl_list (pv 2) po_none (po_some (pe_un un_neg pe_int))) (pa_cons (pv 4) (pa_cons (pv 8) pa_nil)))))))))))))))), ?_⟩
    refine ⟨_, rfl, a, ns, rfl, hS, hl, fun t d r g gs wr kvs Rs G H1 s1 nt et nd nr St => ?_⟩
    have T1 : Tabs Ts H1 := fun T h => TabG.same s1 (hT T h)
    refine ⟨t, _, rfl, SqT.of et, rfl, _, _, rfl, _, _, rfl, _, _, rfl, rfl, ?_⟩
    obtain ⟨as, er, prs⟩ := St.rows
    have gd := St.good
    have lR : Rs.length ≤ 60 := St.rok.1
    have la : as.length = Rs.length := prs.length
    have nok : ∀ z ∈ Rs.map (·.1.name), PySem.PyData.strOk z = true := fun z hz => by
      obtain ⟨R, hR, rfl⟩ := List.mem_map.mp hz
      exact (gd.fit R hR).name
    have hS1 := s1.seq hS
    -- names
    refine ⟨_, rfl, r, rfl, ⟨_, SqL.of er⟩, fun Dn nDn => ?_⟩
    refine lc_list (K := K) (a := r) (xs := as.map V.ref) (fun j H' => Same H1 H' ∧ H' Dn = some (.lst (((Rs.take j).map (·.1.name)).map V.str)))
      ⟨same_upd nDn, upd_same⟩ (fun j H' _ p => SqL.of (p.1 _ _ er)) (fun j x Hb hx p => ?_) (fun H2 p => ?_)
    · obtain ⟨z1, z2⟩ := p
      obtain ⟨ra, hra, rfl⟩ := map_get hx
      have hj : j < as.length := (List.getElem?_eq_some_iff.mp hra).1
      obtain ⟨R, hR, ga, h1, wa, h2, h3⟩ := paired_get prs hra
      refine ⟨rfl, ?_⟩
      refine ⟨_, rfl, ra, _, 0, .ref ga, rfl, rfl, SqT.of (z1 _ _ h1), rfl, ga, _, 0, .str R.1.name, rfl, rfl, SqT.of (z1 _ _ h2), rfl, _, z2, ?_, same_put z1 nDn, ?_⟩
      · rw [List.length_map, List.length_map, List.length_take]
        exact small63 (by omega)
      · rw [upd_same, List.take_add_one, hR, List.map_append, List.map_append]
        rfl
    obtain ⟨s2, eDn⟩ := p
    rw [List.length_map, List.take_of_length_le (by omega)] at eDn
    -- the box
    have hS2 := s2.seq hS1
    refine ⟨_, rfl, _, rfl, a, _, rfl, .inl hS2, _, 2, rfl, rfl, ⟨by decide, by decide⟩, a, ns, (ns.map V.int).length / 2, rfl, hS2, by rw [List.length_map]; omega, fun b xs nb bv => ?_⟩
    have B3 : BoxAt (upd H2 b (.lst xs)) b 0 := ⟨xs, upd_same, bv⟩
    have s3 := same_upd (o := .lst xs) nb
    generalize upd H2 b (.lst xs) = H3 at B3 s3 ⊢
    have s13 := s2.trans s3
    have nb1 : H1 b = none := s2.free nb
    have eDn3 := s3 _ _ eDn
    have Dnb : Dn ∉ [b] := fun z => by
      rw [← List.mem_singleton.mp z, eDn] at nb
      cases nb
    -- some
    refine ⟨_, rfl, Dn, rfl, ⟨_, SqL.of eDn3⟩, fun D nD => ?_⟩
    have Db : D ≠ b := nb_of B3 nD
    have Db' : D ∉ [b] := fun z => Db (List.mem_singleton.mp z)
    refine lc_list (K := K) (a := Dn) (xs := (Rs.map (·.1.name)).map V.str) (fun j H' => Kp [b] H3 H' ∧ BoxAt H' b (j : Int) ∧ ∃ ws : List Str, H' D = some (.lst (ws.map V.str)) ∧ ws.length ≤ j ∧ ∀ z ∈ ws, z ∈ Rs.map (·.1.name))
      ⟨Same.kp _ (same_upd nD), (B3.same (same_upd nD)).le (by omega), [], upd_same, Nat.le_refl _, fun _ h => (nomatch h)⟩ (fun j H' _ p => SqL.of (p.1 _ _ Dnb eDn3)) (fun j x H4 hx p => ?_) (fun H4 p => ?_)
    · obtain ⟨z1, z2, ws, z3, z4, z5⟩ := p
      obtain ⟨z, hz, rfl⟩ := map_get hx
      have hj : j < Rs.length := by
        have := (List.getElem?_eq_some_iff.mp hz).1
        rw [List.length_map] at this
        exact this
      refine ⟨rfl, ?_⟩
      refine ⟨_, rfl, b, _, 3, rfl, z2, by decide, by decide, by omega, fun r' H5 r0 r1 k5 B5 => ⟨r', 0, rfl, rfl, _, rfl, ite2 (fun e => ?_) (fun e => ?_)⟩⟩
      · refine ⟨_, rfl, _, k5 _ _ Db' z3, ?_, kp_put (z1.trans k5) nD, ?_, ws ++ [z], ?_, ?_, fun y hy => ?_⟩
        · rw [List.length_map]
          exact small63 (by omega)
        · obtain ⟨ys, h1, h2⟩ := B5.le (c' := ((j + 1 : Nat) : Int)) (by omega)
          exact ⟨ys, by rw [upd_ne Db.symm]; exact h1, h2⟩
        · rw [upd_same, List.map_append]
          rfl
        · rw [List.length_append]
          show ws.length + 1 ≤ j + 1
          omega
        · rcases List.mem_append.mp hy with h | h
          · exact z5 y h
          · rw [List.mem_singleton.mp h]
            exact List.mem_of_getElem? hz
      · exact ⟨z1.trans k5, B5.le (by omega), ws, k5 _ _ Db' z3, by omega, z5⟩
    obtain ⟨k4, B4, ws, eD, lws, mws⟩ := p
    rw [List.length_map, List.length_map] at lws
    have f4 : Fw Ts H1 H4 := (Fw.same T1 s13).box T1 nb1 k4
    have eDn4 := k4 _ _ Dnb eDn3
    -- mixed
    refine ⟨_, rfl, D, _, rfl, SqL.of eD, fun rv nrv => ⟨by show 1 ≤ sizeLine; decide, fun l nl => ?_⟩⟩
    refine ⟨rv, l, _, _, rfl, rfl, same_upd nl _ _ upd_same, upd_same, ?_, fun p1 np1 => ?_⟩
    · rw [List.length_reverse, List.length_map]
      exact Nat.le_of_lt (small63 (by show ws.length + 1 ≤ 200; omega))
    have s5 := ((same_upd (o := .lst (ws.map V.str).reverse) nrv).trans (same_upd (o := .lst [.str "yy"]) nl)).trans (same_upd (o := .lst ((ws.map V.str).reverse ++ [V.str "yy"])) np1)
    have e5 : upd (upd (upd H4 rv (.lst (ws.map V.str).reverse)) l (.lst [.str "yy"])) p1 (.lst ((ws.map V.str).reverse ++ [V.str "yy"])) p1 = some (.lst ((ws.reverse ++ (["yy"] : List Str)).map V.str)) := by
      rw [upd_same, List.map_append, List.map_reverse]
      rfl
    generalize upd (upd (upd H4 rv (.lst (ws.map V.str).reverse)) l (.lst [.str "yy"])) p1 (.lst ((ws.map V.str).reverse ++ [V.str "yy"])) = H5 at s5 e5 ⊢
    refine ⟨_, rfl, 2, rfl, D, _, rfl, SqL.of (s5 _ _ eD), fun p2 np2 => ?_⟩
    rw [show (2 : Int) = ((2 : Nat) : Int) from rfl, cut_take, ← List.map_take]
    refine ⟨p1, p2, _, _, rfl, rfl, same_upd np2 _ _ e5, upd_same, ?_, fun mx nmx => ?_⟩
    · rw [List.length_map, List.length_map, List.length_append, List.length_reverse, List.length_take]
      exact Nat.le_of_lt (small63 (by show ws.length + 1 + min 2 ws.length ≤ 200; omega))
    rw [← List.map_append]
    have s6 := s5.trans ((same_upd (o := .lst ((ws.take 2).map V.str)) np2).trans (same_upd (o := .lst ((ws.reverse ++ (["yy"] : List Str) ++ ws.take 2).map V.str)) nmx))
    have e6 : upd (upd H5 p2 (.lst ((ws.take 2).map V.str))) mx (.lst ((ws.reverse ++ (["yy"] : List Str) ++ ws.take 2).map V.str)) mx = some (.lst ((ws.reverse ++ (["yy"] : List Str) ++ ws.take 2).map V.str)) := upd_same
    generalize upd (upd H5 p2 (.lst ((ws.take 2).map V.str))) mx (.lst ((ws.reverse ++ (["yy"] : List Str) ++ ws.take 2).map V.str)) = H6 at s6 e6 ⊢
    have f6 := f4.then s6
    have T6 := f6.tabs
    have St6 := St.fw T1 f6
    have eDn6 := s6 _ _ eDn4
    have er6 := f6.lst T1 er
    have pr6 : Paired (RowAt H6) as Rs := prs.mono fun _ _ x => x.kt (f6.kt T1)
    have mok : ∀ z ∈ ws.reverse ++ (["yy"] : List Str) ++ ws.take 2, PySem.PyData.strOk z = true := fun z hz => by
      rcases List.mem_append.mp hz with h | h
      · rcases List.mem_append.mp h with h | h
        · exact nok z (mws z (List.mem_reverse.mp h))
        · rw [List.mem_singleton.mp h]
          decide +kernel
      · exact nok z (mws z (List.mem_of_mem_take h))
    generalize ws.reverse ++ (["yy"] : List Str) ++ ws.take 2 = zs at e6 mok
    refine ⟨fun σ H' => σ = [some (.ref a), some (.ref d), some (.ref r), some (.ref g), some (.ref Dn), some (.ref b), some (.ref D), some (.ref mx), none, none, none] ∧ Fw Ts H6 H', ?_, fun σ H7 hm => ?_⟩
    · have ri : RI K H6 d r g wr kvs as Rs G := St6.ri er6 pr6 (fun _ h => h) gd lR
      refine ⟨_, rfl, _, rfl, _, rfl, _, rfl, d, r, Dn, g, wr, kvs, as, Rs, G, _, rfl, ri, eDn6, nok, T6, fun H7 f7 => ⟨true, rfl, ?_⟩⟩
      exact iteF ⟨_, rfl, _, rfl, _, rfl, _, rfl, d, r, mx, g, wr, kvs, as, Rs, G, zs, rfl, ri.fw T6 f7, f7.lst T6 e6, mok, f7.tabs, fun H8 f8 => ⟨true, rfl, iteF ⟨rfl, f7.trans f8⟩⟩⟩
    obtain ⟨rfl, f7⟩ := hm
    -- no rows
    refine ⟨fun σ H' => σ = [some (.ref a), some (.ref d), some (.ref r), some (.ref g), some (.ref Dn), some (.ref b), some (.ref D), some (.ref mx), none, none, none] ∧ Fw Ts H6 H' ∧ Rs ≠ [], ?_, fun σ H8 hm => ?_⟩
    · refine ⟨_, rfl, by show 0 ≤ sizeLine; decide, fun e ne => ?_⟩
      have s8 := same_upd (o := .lst []) ne
      refine ⟨.list (Rs.map rowD), .list [], .lst (SqL.of (s8 _ _ (f7.lst T6 er6))) (dp_rows (pr6.mono fun _ _ x => (x.kt (f7.kt T6)).same s8)), .lst (SqL.of upd_same) .nil, sh_rows gd.fit, rfl, _, rfl, ?_⟩
      rw [eqv_nil]
      cases hR : Rs with
      | nil => exact iteT (q _)
      | cons R Rs' => exact iteF ⟨rfl, f7.then s8, fun z => by cases z⟩
    obtain ⟨rfl, f8, hne⟩ := hm
    have f18 := f6.trans f8
    have er8 := f18.lst T1 er
    have pr8 : Paired (RowAt H8) as Rs := prs.mono fun _ _ x => x.kt (f18.kt T1)
    have l1 : 1 ≤ Rs.length := by
      cases hR : Rs with
      | nil => exact absurd hR hne
      | cons R Rs' => exact Nat.succ_le_succ (Nat.zero_le _)
    have hlast : as.length - 1 < as.length := by omega
    obtain ⟨O, hO, oat⟩ := paired_get pr8 (List.getElem?_eq_getElem hlast)
    have hOm := List.mem_of_getElem? hO
    obtain ⟨og, o1, o2⟩ := oat
    refine ⟨_, rfl, 1, rfl, r, _, -1, .ref as[as.length - 1], rfl, rfl, SqL.of er8, ?_, as[as.length - 1], _, 0, .ref og, rfl, rfl, SqT.of o1, rfl, ?_⟩
    · have sp : as = as.take (as.length - 1) ++ [as[as.length - 1]] := by
        have h := List.take_append_drop (as.length - 1) as
        rw [List.drop_eq_getElem_cons hlast, List.drop_of_length_le (by omega)] at h
        exact h.symm
      have sp2 : as.map V.ref = (as.take (as.length - 1)).map V.ref ++ [V.ref as[as.length - 1]] := by
        rw [← List.map_singleton (f := V.ref), ← List.map_append, ← sp]
      rw [sp2]
      exact atI_last _ _
    -- none of no names
    refine ⟨fun σ H' => σ = [some (.ref a), some (.ref d), some (.ref r), some (.ref g), some (.ref Dn), some (.ref b), some (.ref D), some (.ref mx), some (.ref og), none, none] ∧ Fw Ts H6 H', ?_, fun σ H9 hm => ?_⟩
    · refine ⟨_, rfl, _, rfl, by show 0 ≤ sizeLine; decide, fun e ne => ?_⟩
      have f9 := f8.then (same_upd (o := .lst []) ne)
      have ri9 : RI K (upd H8 e (.lst [])) d r g wr kvs as Rs G := ((St6.ri er6 pr6 (fun _ h => h) gd lR).fw T6 f9)
      refine ⟨_, rfl, d, r, e, g, wr, kvs, as, Rs, [], G, rfl, ri9.dr, SqL.of upd_same, ri9.at_, ri9.fit, ri9.wl, ri9.gg, ri9.no, f9.tabs, fun p Ha ts fa np ep pts => ?_⟩
      rw [may_none] at pts
      cases pts
      refine ⟨by show 0 ≤ sizeLine; decide, fun e2 ne2 => ⟨.list [], .list [], .lst (SqL.of (same_upd ne2 _ _ ep)) .nil, .lst (SqL.of upd_same) .nil, rfl, rfl, _, rfl, iteF ⟨rfl, (f9.trans fa).then (same_upd ne2)⟩⟩⟩
    obtain ⟨rfl, f9⟩ := hm
    have f19 := f6.trans f9
    have er9 := f19.lst T1 er
    refine ⟨_, rfl, _, rfl, 1, rfl, -1, rfl, r, _, rfl, SqL.of er9, fun sl nsl => ?_⟩
    rw [cut_last, List.length_map, ← List.map_take]
    have fA := f9.then (same_upd (o := .lst ((as.take (as.length - 1)).map V.ref)) nsl)
    have eA : upd H9 sl (.lst ((as.take (as.length - 1)).map V.ref)) sl = some (.lst ((as.take (as.length - 1)).map V.ref)) := upd_same
    generalize upd H9 sl (.lst ((as.take (as.length - 1)).map V.ref)) = HA at fA eA ⊢
    have f1A := f6.trans fA
    have prA : Paired (RowAt HA) (as.take (as.length - 1)) (Rs.take (as.length - 1)) := paired_take (prs.mono fun _ _ x => x.kt (f1A.kt T1)) _
    have oA : GangAt HA og O.1 := by
      have h : RowAt HA as[as.length - 1] O := by
        obtain ⟨O', hO', oat'⟩ := paired_get (prs.mono fun _ _ x => x.kt (f1A.kt T1) : Paired (RowAt HA) as Rs) (List.getElem?_eq_getElem hlast)
        rw [hO] at hO'
        cases hO'
        exact oat'
      obtain ⟨og', h1, h2⟩ := h
      have h3 : RowAt H1 as[as.length - 1] O := by
        obtain ⟨O', hO', oat'⟩ := paired_get prs (List.getElem?_eq_getElem hlast)
        rw [hO] at hO'
        cases hO'
        exact oat'
      obtain ⟨og1, k1, k2⟩ := h3
      have q1 := f18.kt T1 _ _ k1
      have q2 := f1A.kt T1 _ _ k1
      rw [o1] at q1
      rw [h1] at q2
      have e1 : og = og1 := by
        simp only [Option.some.injEq, HO.tup.injEq, List.cons.injEq, V.ref.injEq] at q1
        exact q1.1
      have e2 : og' = og1 := by
        simp only [Option.some.injEq, HO.tup.injEq, List.cons.injEq, V.ref.injEq] at q2
        exact q2.1
      rw [e1, ← e2]
      exact h2
    have sub : (Rs.take (as.length - 1)).Sublist Rs := List.take_sublist _ _
    have noO : ∀ R ∈ Rs.take (as.length - 1), R.1.name ≠ O.1.name := fun R hR z => by
      obtain ⟨i, hi⟩ := List.mem_iff_getElem?.mp hR
      have hil : i < as.length - 1 := by
        have := (List.getElem?_eq_some_iff.mp hi).1
        rw [List.length_take] at this
        omega
      rw [List.getElem?_take, if_pos hil] at hi
      obtain ⟨lt1, e1⟩ := List.getElem?_eq_some_iff.mp hi
      obtain ⟨lt2, e2⟩ := List.getElem?_eq_some_iff.mp hO
      have := List.pairwise_iff_getElem.mp gd.names i (as.length - 1) (by rw [List.length_map]; exact lt1) (by rw [List.length_map]; exact lt2) hil
      rw [List.getElem_map, List.getElem_map, e1, e2] at this
      exact this z
    refine ⟨_, rfl, _, rfl, d, sl, Dn, og, wr, kvs, _, _, O.1, _, rfl, (St.fw T1 f1A).ri1 hOm oA noO eA prA (fun R hR => sub.subset hR) (gd.sub sub) (Nat.le_trans sub.length_le lR), fA.lst T6 eDn6, nok, fA.tabs, fun Hb fb => q _⟩
end
end My

namespace My
open PySem PySem.Spec PyProof.Rows L2 GX GxR
set_option maxHeartbeats 8000000 in
theorem all_mk {l : PySem.W.OpenLaw} {q : Program} {loose : List Str} {mean : ExcName → Option Value} {w : World} {K : PySem.W.Frag} {h : Heap} {mg mb : Str → Option Value} {fa f1 f2 f3 f4 f5 f6 f7 f8 f9 f10 f11 f12 f13 f14 f15 f16 f17 f18 f19 f20 f21 f22 f23 f24 f25 f26 f27 f28 f29 f30 f31 f32 c3 T3 : Addr} (X : K.In h) (Z : PyProof.Rows.Top q loose mean mg mb h) (hfa : mg "law" = some (.ref fa))
    {od1 an1 od2 an2 od3 an3 od4 an4 od5 an5 od6 an6 od7 an7 od8 an8 od9 an9 od10 an10 od11 an11 od12 an12 od13 an13 od14 an14 od15 an15 od16 an16 od17 an17 od18 an18 od19 an19 od20 an20 od21 an21 od22 an22 od23 an23 od24 an24 od25 an25 od26 an26 od27 an27 od28 an28 od29 an29 od30 an30 od31 an31 od32 an32 : Option Addr} {sl1 sl2 sl3 sl4 sl5 sl6 sl7 sl8 sl9 sl10 sl11 sl12 sl13 sl14 sl15 sl16 sl17 sl18 sl19 sl20 sl21 sl22 sl23 sl24 sl25 sl26 sl27 sl28 sl29 sl30 sl31 sl32 : Array (Option Value)} {oc1 kV1 dc1 pm1 ct1 oc2 kV2 dc2 pm2 ct2 oc3 kV3 dc3 pm3 ct3 oc4 kV4 dc4 pm4 ct4 oc5 kV5 dc5 pm5 ct5 oc6 kV6 dc6 pm6 ct6 oc7 kV7 dc7 pm7 ct7 oc8 kV8 dc8 pm8 ct8 oc9 kV9 dc9 pm9 ct9 oc10 kV10 dc10 pm10 ct10 oc11 kV11 dc11 pm11 ct11 oc12 kV12 dc12 pm12 ct12 oc13 kV13 dc13 pm13 ct13 oc14 kV14 dc14 pm14 ct14 oc15 kV15 dc15 pm15 ct15 oc16 kV16 dc16 pm16 ct16 oc17 kV17 dc17 pm17 ct17 oc18 kV18 dc18 pm18 ct18 oc19 kV19 dc19 pm19 ct19 oc20 kV20 dc20 pm20 ct20 oc21 kV21 dc21 pm21 ct21 oc22 kV22 dc22 pm22 ct22 oc23 kV23 dc23 pm23 ct23 oc24 kV24 dc24 pm24 ct24 oc25 kV25 dc25 pm25 ct25 oc26 kV26 dc26 pm26 ct26 oc27 kV27 dc27 pm27 ct27 oc28 kV28 dc28 pm28 ct28 oc29 kV29 dc29 pm29 ct29 oc30 kV30 dc30 pm30 ct30 oc31 kV31 dc31 pm31 ct31 oc32 kV32 dc32 pm32 ct32 cd1 cd2 cd4 cd5 cd6 cd7 cd8 cd9 cd10 cd11 cd12 cd13 cd14 cd15 cd16 cd17 cd18 cd19 cd20 cd21 cd22 cd23 cd24 cd25 cd26 cd27 cd28 cd29 cd30 cd31 cd32 : Value} {tk1 : Tok} {tk2 : Tok} {ec3 : Value} {ed3 : Option Addr} {vs3 : Array Value} {es3 : Array (Option Value)}
    (a1 : PySem.W.nsIn K mainGlobals "nothing_of" = some (some (.ref f1))) (l1 : K.lookup f1 = some ⟨oc1, od1, .func (PySem.W.fnOf "nothing_of" "nothing_of" (defArgs s_scNothing) (defBody s_scNothing) (defScope s_scNothing) .none kV1 dc1 pm1 an1 cd1 ct1), sl1⟩) (e1 : PySem.W.codeIn K cd1 "nothing_of" = true) (k1 : PySem.W.keepIn K (.ref f1) = true)
    (a2 : PySem.W.nsIn K mainGlobals "amount_sum" = some (some (.ref f2))) (l2 : K.lookup f2 = some ⟨oc2, od2, .func (PySem.W.fnOf "amount_sum" "amount_sum" (defArgs s_scSum) (defBody s_scSum) (defScope s_scSum) .none kV2 dc2 pm2 an2 cd2 ct2), sl2⟩) (e2 : PySem.W.codeIn K cd2 "amount_sum" = true) (k2 : PySem.W.keepIn K (.ref f2) = true)
    (a3 : PySem.W.nsIn K mainGlobals "amount_fits" = some (some (.ref f3))) (l3 : K.lookup f3 = some ⟨oc3, od3, .func (PySem.W.fnOf "amount_fits" "amount_fits" (defArgs s_scFits) (defBody s_scFits) (defScope s_scFits) .none kV3 dc3 pm3 an3 (.ref c3) ct3), sl3⟩) (e3 : PySem.W.codeIn K (.ref c3) "amount_fits" = true) (k3 : PySem.W.keepIn K (.ref f3) = true)
    (u3 : K.lookup c3 = some ⟨ec3, ed3, .fields vs3, es3⟩) (v3 : vs3[11]? = some (.ref T3)) (n3 : K.lookup T3 = none) (r3 : ((recsOf q).any fun e => e.name == ("amount_fits" : Str)) = true)
    (a4 : PySem.W.nsIn K mainGlobals "amount_times" = some (some (.ref f4))) (l4 : K.lookup f4 = some ⟨oc4, od4, .func (PySem.W.fnOf "amount_times" "amount_times" (defArgs s_scTimes) (defBody s_scTimes) (defScope s_scTimes) .none kV4 dc4 pm4 an4 cd4 ct4), sl4⟩) (e4 : PySem.W.codeIn K cd4 "amount_times" = true) (k4 : PySem.W.keepIn K (.ref f4) = true)
    (a5 : PySem.W.nsIn K mainGlobals "name_of" = some (some (.ref f5))) (l5 : K.lookup f5 = some ⟨oc5, od5, .func (PySem.W.fnOf "name_of" "name_of" (defArgs s_scGName) (defBody s_scGName) (defScope s_scGName) .none kV5 dc5 pm5 an5 cd5 ct5), sl5⟩) (e5 : PySem.W.codeIn K cd5 "name_of" = true) (k5 : PySem.W.keepIn K (.ref f5) = true)
    (a6 : PySem.W.nsIn K mainGlobals "rank_of" = some (some (.ref f6))) (l6 : K.lookup f6 = some ⟨oc6, od6, .func (PySem.W.fnOf "rank_of" "rank_of" (defArgs s_scRank) (defBody s_scRank) (defScope s_scRank) .none kV6 dc6 pm6 an6 cd6 ct6), sl6⟩) (e6 : PySem.W.codeIn K cd6 "rank_of" = true) (k6 : PySem.W.keepIn K (.ref f6) = true)
    (a7 : PySem.W.nsIn K mainGlobals "whole_of" = some (some (.ref f7))) (l7 : K.lookup f7 = some ⟨oc7, od7, .func (PySem.W.fnOf "whole_of" "whole_of" (defArgs s_scWhole) (defBody s_scWhole) (defScope s_scWhole) .none kV7 dc7 pm7 an7 cd7 ct7), sl7⟩) (e7 : PySem.W.codeIn K cd7 "whole_of" = true) (k7 : PySem.W.keepIn K (.ref f7) = true)
    (a8 : PySem.W.nsIn K mainGlobals "place_in_order" = some (some (.ref f8))) (l8 : K.lookup f8 = some ⟨oc8, od8, .func (PySem.W.fnOf "place_in_order" "place_in_order" (defArgs s_scPlace) (defBody s_scPlace) (defScope s_scPlace) .none kV8 dc8 pm8 an8 cd8 ct8), sl8⟩) (e8 : PySem.W.codeIn K cd8 "place_in_order" = true) (k8 : PySem.W.keepIn K (.ref f8) = true)
    (a9 : PySem.W.nsIn K mainGlobals "in_order" = some (some (.ref f9))) (l9 : K.lookup f9 = some ⟨oc9, od9, .func (PySem.W.fnOf "in_order" "in_order" (defArgs s_scInOrd) (defBody s_scInOrd) (defScope s_scInOrd) .none kV9 dc9 pm9 an9 cd9 ct9), sl9⟩) (e9 : PySem.W.codeIn K cd9 "in_order" = true) (k9 : PySem.W.keepIn K (.ref f9) = true)
    (a10 : PySem.W.nsIn K mainGlobals "parted_gangs" = some (some (.ref f10))) (l10 : K.lookup f10 = some ⟨oc10, od10, .func (PySem.W.fnOf "parted_gangs" "parted_gangs" (defArgs s_scPartG) (defBody s_scPartG) (defScope s_scPartG) .none kV10 dc10 pm10 an10 cd10 ct10), sl10⟩) (e10 : PySem.W.codeIn K cd10 "parted_gangs" = true) (k10 : PySem.W.keepIn K (.ref f10) = true)
    (a11 : PySem.W.nsIn K mainGlobals "parted" = some (some (.ref f11))) (l11 : K.lookup f11 = some ⟨oc11, od11, .func (PySem.W.fnOf "parted" "parted" (defArgs s_scParted) (defBody s_scParted) (defScope s_scParted) .none kV11 dc11 pm11 an11 cd11 ct11), sl11⟩) (e11 : PySem.W.codeIn K cd11 "parted" = true) (k11 : PySem.W.keepIn K (.ref f11) = true)
    (a12 : PySem.W.nsIn K mainGlobals "guild_of" = some (some (.ref f12))) (l12 : K.lookup f12 = some ⟨oc12, od12, .func (PySem.W.fnOf "guild_of" "guild_of" (defArgs s_scGOf) (defBody s_scGOf) (defScope s_scGOf) .none kV12 dc12 pm12 an12 cd12 ct12), sl12⟩) (e12 : PySem.W.codeIn K cd12 "guild_of" = true) (k12 : PySem.W.keepIn K (.ref f12) = true)
    (a13 : PySem.W.nsIn K mainGlobals "owed" = some (some (.ref f13))) (l13 : K.lookup f13 = some ⟨oc13, od13, .func (PySem.W.fnOf "owed" "owed" (defArgs s_scOwed) (defBody s_scOwed) (defScope s_scOwed) .none kV13 dc13 pm13 an13 cd13 ct13), sl13⟩) (e13 : PySem.W.codeIn K cd13 "owed" = true) (k13 : PySem.W.keepIn K (.ref f13) = true)
    (a14 : PySem.W.nsIn K mainGlobals "own_with" = some (some (.ref f14))) (l14 : K.lookup f14 = some ⟨oc14, od14, .func (PySem.W.fnOf "own_with" "own_with" (defArgs s_scOwnW) (defBody s_scOwnW) (defScope s_scOwnW) .none kV14 dc14 pm14 an14 cd14 ct14), sl14⟩) (e14 : PySem.W.codeIn K cd14 "own_with" = true) (k14 : PySem.W.keepIn K (.ref f14) = true)
    (a15 : PySem.W.nsIn K mainGlobals "rows_of_guild" = some (some (.ref f15))) (l15 : K.lookup f15 = some ⟨oc15, od15, .func (PySem.W.fnOf "rows_of_guild" "rows_of_guild" (defArgs s_scROf) (defBody s_scROf) (defScope s_scROf) .none kV15 dc15 pm15 an15 cd15 ct15), sl15⟩) (e15 : PySem.W.codeIn K cd15 "rows_of_guild" = true) (k15 : PySem.W.keepIn K (.ref f15) = true)
    (a16 : PySem.W.nsIn K mainGlobals "lent_among" = some (some (.ref f16))) (l16 : K.lookup f16 = some ⟨oc16, od16, .func (PySem.W.fnOf "lent_among" "lent_among" (defArgs s_scLent) (defBody s_scLent) (defScope s_scLent) .none kV16 dc16 pm16 an16 cd16 ct16), sl16⟩) (e16 : PySem.W.codeIn K cd16 "lent_among" = true) (k16 : PySem.W.keepIn K (.ref f16) = true)
    (a17 : PySem.W.nsIn K mainGlobals "ground_in_guild" = some (some (.ref f17))) (l17 : K.lookup f17 = some ⟨oc17, od17, .func (PySem.W.fnOf "ground_in_guild" "ground_in_guild" (defArgs s_scGr1) (defBody s_scGr1) (defScope s_scGr1) .none kV17 dc17 pm17 an17 cd17 ct17), sl17⟩) (e17 : PySem.W.codeIn K cd17 "ground_in_guild" = true) (k17 : PySem.W.keepIn K (.ref f17) = true)
    (a18 : PySem.W.nsIn K mainGlobals "ground_beyond_guild" = some (some (.ref f18))) (l18 : K.lookup f18 = some ⟨oc18, od18, .func (PySem.W.fnOf "ground_beyond_guild" "ground_beyond_guild" (defArgs s_scGr2) (defBody s_scGr2) (defScope s_scGr2) .none kV18 dc18 pm18 an18 cd18 ct18), sl18⟩) (e18 : PySem.W.codeIn K cd18 "ground_beyond_guild" = true) (k18 : PySem.W.keepIn K (.ref f18) = true)
    (a19 : PySem.W.nsIn K mainGlobals "may_take" = some (some (.ref f19))) (l19 : K.lookup f19 = some ⟨oc19, od19, .func (PySem.W.fnOf "may_take" "may_take" (defArgs s_scMay) (defBody s_scMay) (defScope s_scMay) .none kV19 dc19 pm19 an19 cd19 ct19), sl19⟩) (e19 : PySem.W.codeIn K cd19 "may_take" = true) (k19 : PySem.W.keepIn K (.ref f19) = true)
    (a20 : PySem.W.nsIn K mainGlobals "_law_box" = some (some (.ref f20))) (l20 : K.lookup f20 = some ⟨oc20, od20, .func (PySem.W.fnOf "_law_box" "_law_box" (defArgs sBox) (defBody sBox) (defScope sBox) .none kV20 dc20 pm20 an20 cd20 ct20), sl20⟩) (e20 : PySem.W.codeIn K cd20 "_law_box" = true) (k20 : PySem.W.keepIn K (.ref f20) = true)
    (a21 : PySem.W.nsIn K mainGlobals "_law_take" = some (some (.ref f21))) (l21 : K.lookup f21 = some ⟨oc21, od21, .func (PySem.W.fnOf "_law_take" "_law_take" (defArgs sTake) (defBody sTake) (defScope sTake) .none kV21 dc21 pm21 an21 cd21 ct21), sl21⟩) (e21 : PySem.W.codeIn K cd21 "_law_take" = true) (k21 : PySem.W.keepIn K (.ref f21) = true)
    (a22 : PySem.W.nsIn K mainGlobals "_law_gang" = some (some (.ref f22))) (l22 : K.lookup f22 = some ⟨oc22, od22, .func (PySem.W.fnOf "_law_gang" "_law_gang" (defArgs s_scGang) (defBody s_scGang) (defScope s_scGang) .none kV22 dc22 pm22 an22 cd22 ct22), sl22⟩) (e22 : PySem.W.codeIn K cd22 "_law_gang" = true) (k22 : PySem.W.keepIn K (.ref f22) = true)
    (a23 : PySem.W.nsIn K mainGlobals "_law_due" = some (some (.ref f23))) (l23 : K.lookup f23 = some ⟨oc23, od23, .func (PySem.W.fnOf "_law_due" "_law_due" (defArgs s_scDue) (defBody s_scDue) (defScope s_scDue) .none kV23 dc23 pm23 an23 cd23 ct23), sl23⟩) (e23 : PySem.W.codeIn K cd23 "_law_due" = true) (k23 : PySem.W.keepIn K (.ref f23) = true)
    (a24 : PySem.W.nsIn K mainGlobals "_law_state" = some (some (.ref f24))) (l24 : K.lookup f24 = some ⟨oc24, od24, .func (PySem.W.fnOf "_law_state" "_law_state" (defArgs s_scState) (defBody s_scState) (defScope s_scState) .none kV24 dc24 pm24 an24 cd24 ct24), sl24⟩) (e24 : PySem.W.codeIn K cd24 "_law_state" = true) (k24 : PySem.W.keepIn K (.ref f24) = true)
    (a25 : PySem.W.nsIn K mainGlobals "_law_same" = some (some (.ref f25))) (l25 : K.lookup f25 = some ⟨oc25, od25, .func (PySem.W.fnOf "_law_same" "_law_same" (defArgs s_scSame) (defBody s_scSame) (defScope s_scSame) .none kV25 dc25 pm25 an25 cd25 ct25), sl25⟩) (e25 : PySem.W.codeIn K cd25 "_law_same" = true) (k25 : PySem.W.keepIn K (.ref f25) = true)
    (a26 : PySem.W.nsIn K mainGlobals "_law_order" = some (some (.ref f26))) (l26 : K.lookup f26 = some ⟨oc26, od26, .func (PySem.W.fnOf "_law_order" "_law_order" (defArgs s_scOrder) (defBody s_scOrder) (defScope s_scOrder) .none kV26 dc26 pm26 an26 cd26 ct26), sl26⟩) (e26 : PySem.W.codeIn K cd26 "_law_order" = true) (k26 : PySem.W.keepIn K (.ref f26) = true)
    (a27 : PySem.W.nsIn K mainGlobals "_law_parted" = some (some (.ref f27))) (l27 : K.lookup f27 = some ⟨oc27, od27, .func (PySem.W.fnOf "_law_parted" "_law_parted" (defArgs s_scLPart) (defBody s_scLPart) (defScope s_scLPart) .none kV27 dc27 pm27 an27 cd27 ct27), sl27⟩) (e27 : PySem.W.codeIn K cd27 "_law_parted" = true) (k27 : PySem.W.keepIn K (.ref f27) = true)
    (a28 : PySem.W.nsIn K mainGlobals "_law_fits" = some (some (.ref f28))) (l28 : K.lookup f28 = some ⟨oc28, od28, .func (PySem.W.fnOf "_law_fits" "_law_fits" (defArgs s_scLFit) (defBody s_scLFit) (defScope s_scLFit) .none kV28 dc28 pm28 an28 cd28 ct28), sl28⟩) (e28 : PySem.W.codeIn K cd28 "_law_fits" = true) (k28 : PySem.W.keepIn K (.ref f28) = true)
    (a29 : PySem.W.nsIn K mainGlobals "_law_guild" = some (some (.ref f29))) (l29 : K.lookup f29 = some ⟨oc29, od29, .func (PySem.W.fnOf "_law_guild" "_law_guild" (defArgs s_scLGuild) (defBody s_scLGuild) (defScope s_scLGuild) .none kV29 dc29 pm29 an29 cd29 ct29), sl29⟩) (e29 : PySem.W.codeIn K cd29 "_law_guild" = true) (k29 : PySem.W.keepIn K (.ref f29) = true)
    (a30 : PySem.W.nsIn K mainGlobals "_law_taken" = some (some (.ref f30))) (l30 : K.lookup f30 = some ⟨oc30, od30, .func (PySem.W.fnOf "_law_taken" "_law_taken" (defArgs s_scTaken) (defBody s_scTaken) (defScope s_scTaken) .none kV30 dc30 pm30 an30 cd30 ct30), sl30⟩) (e30 : PySem.W.codeIn K cd30 "_law_taken" = true) (k30 : PySem.W.keepIn K (.ref f30) = true)
    (a31 : PySem.W.nsIn K mainGlobals "_law_right" = some (some (.ref f31))) (l31 : K.lookup f31 = some ⟨oc31, od31, .func (PySem.W.fnOf "_law_right" "_law_right" (defArgs s_scRight) (defBody s_scRight) (defScope s_scRight) .none kV31 dc31 pm31 an31 cd31 ct31), sl31⟩) (e31 : PySem.W.codeIn K cd31 "_law_right" = true) (k31 : PySem.W.keepIn K (.ref f31) = true)
    (a32 : PySem.W.nsIn K mainGlobals "law" = some (some (.ref f32))) (l32 : K.lookup f32 = some ⟨oc32, od32, .func (PySem.W.fnOf "law" "law" (defArgs s_scLaw) (defBody s_scLaw) (defScope s_scLaw) .none kV32 dc32 pm32 an32 cd32 ct32), sl32⟩) (e32 : PySem.W.codeIn K cd32 "law" = true) (k32 : PySem.W.keepIn K (.ref f32) = true)
    (z1 : PySem.W.nsIn K mainGlobals "len" = some none)
    (z2 : PySem.W.nsIn K mainGlobals "abs" = some none)
    (z3 : PySem.W.nsIn K mainGlobals "isinstance" = some none)
    (z4 : PySem.W.nsIn K mainGlobals "list" = some none)
    (z5 : PySem.W.nsIn K mainGlobals "tuple" = some none)
    (z6 : PySem.W.nsIn K mainGlobals "zip" = some none)
    (z7 : PySem.W.nsIn K mainGlobals "all" = some none)
    (z8 : PySem.W.nsIn K mainGlobals "str" = some none)
    (z9 : PySem.W.nsIn K mainGlobals "int" = some none)
    (z10 : PySem.W.nsIn K mainGlobals "bool" = some none)
    (z11 : PySem.W.nsIn K mainGlobals "max" = some none)
    (z12 : PySem.W.nsIn K mainGlobals "min" = some none)
    (z13 : PySem.W.nsIn K mainGlobals "range" = some none)
    (z14 : PySem.W.nsIn K mainGlobals "sum" = some none)
    (z15 : PySem.W.nsIn K mainGlobals "dict" = some none)
    (z16 : PySem.W.nsIn K mainGlobals "sorted" = some none)
    (z17 : PySem.W.nsIn K mainGlobals "reversed" = some none)
    (y1 : PySem.W.nsIn K mainGlobals "BY_RANK" = some (some (.str "rank" tk1)))
    (y2 : PySem.W.nsIn K mainGlobals "BY_SHARE" = some (some (.str "share" tk2))) :
    LamX.LawAtS l w K CX0 11 63 "_law_script" mg fa h := by
  have G := Z.g
  have e := hfa.symm.trans (PySem.W.mg_of X G a32)
  cases e
  have F1 := fun_mk (st := s_scNothing) l1 e1 k1
  have b1 := F1.binds (ps := ["wares"]) (fun _ _ _ _ _ _ us hl => match us, hl with | [_], _ => rfl)
  have m1 := PySem.W.mg_of X G a1
  have F2 := fun_mk (st := s_scSum) l2 e2 k2
  have b2 := F2.binds (ps := ["one", "other"]) (fun _ _ _ _ _ _ us hl => match us, hl with | [_, _], _ => rfl)
  have m2 := PySem.W.mg_of X G a2
  have C3 : FunC K "amount_fits" "amount_fits" s_scFits f3 _ c3 := ⟨⟨_, _, _, _, _, _, _, _, rfl, l3, e3⟩, k3⟩
  have F3 := C3.fn
  obtain ⟨h3, g3⟩ := tab_at Z X r3 (tab_in a3 l3 rfl u3 v3)
  have b3 := F3.binds (ps := ["one", "other"]) (fun _ _ _ _ _ _ us hl => match us, hl with | [_, _], _ => rfl)
  have m3 := PySem.W.mg_of X G a3
  have F4 := fun_mk (st := s_scTimes) l4 e4 k4
  have b4 := F4.binds (ps := ["one", "n"]) (fun _ _ _ _ _ _ us hl => match us, hl with | [_, _], _ => rfl)
  have m4 := PySem.W.mg_of X G a4
  have F5 := fun_mk (st := s_scGName) l5 e5 k5
  have b5 := F5.binds (ps := ["gang"]) (fun _ _ _ _ _ _ us hl => match us, hl with | [_], _ => rfl)
  have m5 := PySem.W.mg_of X G a5
  have F6 := fun_mk (st := s_scRank) l6 e6 k6
  have b6 := F6.binds (ps := ["gang"]) (fun _ _ _ _ _ _ us hl => match us, hl with | [_], _ => rfl)
  have m6 := PySem.W.mg_of X G a6
  have F7 := fun_mk (st := s_scWhole) l7 e7 k7
  have b7 := F7.binds (ps := ["gang"]) (fun _ _ _ _ _ _ us hl => match us, hl with | [_], _ => rfl)
  have m7 := PySem.W.mg_of X G a7
  have F8 := fun_mk (st := s_scPlace) l8 e8 k8
  have b8 := F8.binds (ps := ["row"]) (fun _ _ _ _ _ _ us hl => match us, hl with | [_], _ => rfl)
  have m8 := PySem.W.mg_of X G a8
  have F9 := fun_mk (st := s_scInOrd) l9 e9 k9
  have b9 := F9.binds (ps := ["rows"]) (fun _ _ _ _ _ _ us hl => match us, hl with | [_], _ => rfl)
  have m9 := PySem.W.mg_of X G a9
  have F10 := fun_mk (st := s_scPartG) l10 e10 k10
  have b10 := F10.binds (ps := ["due", "rows"]) (fun _ _ _ _ _ _ us hl => match us, hl with | [_, _], _ => rfl)
  have m10 := PySem.W.mg_of X G a10
  have F11 := fun_mk (st := s_scParted) l11 e11 k11
  have b11 := F11.binds (ps := ["due", "rows"]) (fun _ _ _ _ _ _ us hl => match us, hl with | [_, _], _ => rfl)
  have m11 := PySem.W.mg_of X G a11
  have F12 := fun_mk (st := s_scGOf) l12 e12 k12
  have b12 := F12.binds (ps := ["gang"]) (fun _ _ _ _ _ _ us hl => match us, hl with | [_], _ => rfl)
  have m12 := PySem.W.mg_of X G a12
  have F13 := fun_mk (st := s_scOwed) l13 e13 k13
  have b13 := F13.binds (ps := ["due", "rows", "gang"]) (fun _ _ _ _ _ _ us hl => match us, hl with | [_, _, _], _ => rfl)
  have m13 := PySem.W.mg_of X G a13
  have F14 := fun_mk (st := s_scOwnW) l14 e14 k14
  have b14 := F14.binds (ps := ["due", "rows", "gang"]) (fun _ _ _ _ _ _ us hl => match us, hl with | [_, _, _], _ => rfl)
  have m14 := PySem.W.mg_of X G a14
  have F15 := fun_mk (st := s_scROf) l15 e15 k15
  have b15 := F15.binds (ps := ["rows", "guild"]) (fun _ _ _ _ _ _ us hl => match us, hl with | [_, _], _ => rfl)
  have m15 := PySem.W.mg_of X G a15
  have F16 := fun_mk (st := s_scLent) l16 e16 k16
  have b16 := F16.binds (ps := ["dues", "rows"]) (fun _ _ _ _ _ _ us hl => match us, hl with | [_, _], _ => rfl)
  have m16 := PySem.W.mg_of X G a16
  have F17 := fun_mk (st := s_scGr1) l17 e17 k17
  have b17 := F17.binds (ps := ["lesser", "is_lent", "is_own_with"]) (fun _ _ _ _ _ _ us hl => match us, hl with | [_, _, _], _ => rfl)
  have m17 := PySem.W.mg_of X G a17
  have F18 := fun_mk (st := s_scGr2) l18 e18 k18
  have b18 := F18.binds (ps := ["lesser", "is_lent", "is_owed"]) (fun _ _ _ _ _ _ us hl => match us, hl with | [_, _, _], _ => rfl)
  have m18 := PySem.W.mg_of X G a18
  have F19 := fun_mk (st := s_scMay) l19 e19 k19
  have b19 := F19.binds (ps := ["dues", "rows", "names", "gang"]) (fun _ _ _ _ _ _ us hl => match us, hl with | [_, _, _, _], _ => rfl)
  have m19 := PySem.W.mg_of X G a19
  have F20 := fun_mk (st := sBox) l20 e20 k20
  have b20 := F20.binds (ps := ["_law_script", "_law_k"]) (fun _ _ _ _ _ _ us hl => match us, hl with | [_, _], _ => rfl)
  have m20 := PySem.W.mg_of X G a20
  have F21 := fun_mk (st := sTake) l21 e21 k21
  have b21 := F21.binds (ps := ["_law_box_here", "_law_many"]) (fun _ _ _ _ _ _ us hl => match us, hl with | [_, _], _ => rfl)
  have m21 := PySem.W.mg_of X G a21
  have F22 := fun_mk (st := s_scGang) l22 e22 k22
  have b22 := F22.binds (ps := ["_law_box_here", "_law_name", "_law_guilds", "_law_wares", "_law_wide"]) (fun _ _ _ _ _ _ us hl => match us, hl with | [_, _, _, _, _], _ => rfl)
  have m22 := PySem.W.mg_of X G a22
  have F23 := fun_mk (st := s_scDue) l23 e23 k23
  have b23 := F23.binds (ps := ["_law_box_here", "_law_wares", "_law_wide"]) (fun _ _ _ _ _ _ us hl => match us, hl with | [_, _, _], _ => rfl)
  have m23 := PySem.W.mg_of X G a23
  have F24 := fun_mk (st := s_scState) l24 e24 k24
  have b24 := F24.binds (ps := ["_law_script"]) (fun _ _ _ _ _ _ us hl => match us, hl with | [_], _ => rfl)
  have m24 := PySem.W.mg_of X G a24
  have F25 := fun_mk (st := s_scSame) l25 e25 k25
  have b25 := F25.binds (ps := ["_law_found", "_law_due_here"]) (fun _ _ _ _ _ _ us hl => match us, hl with | [_, _], _ => rfl)
  have m25 := PySem.W.mg_of X G a25
  have F26 := fun_mk (st := s_scOrder) l26 e26 k26
  have b26 := F26.binds (ps := ["_law_rows"]) (fun _ _ _ _ _ _ us hl => match us, hl with | [_], _ => rfl)
  have m26 := PySem.W.mg_of X G a26
  have F27 := fun_mk (st := s_scLPart) l27 e27 k27
  have b27 := F27.binds (ps := ["_law_due_here", "_law_rows"]) (fun _ _ _ _ _ _ us hl => match us, hl with | [_, _], _ => rfl)
  have m27 := PySem.W.mg_of X G a27
  have F28 := fun_mk (st := s_scLFit) l28 e28 k28
  have b28 := F28.binds (ps := ["_law_due_here", "_law_borne", "_law_gang_here"]) (fun _ _ _ _ _ _ us hl => match us, hl with | [_, _, _], _ => rfl)
  have m28 := PySem.W.mg_of X G a28
  have F29 := fun_mk (st := s_scLGuild) l29 e29 k29
  have b29 := F29.binds (ps := ["_law_rows", "_law_guild_here"]) (fun _ _ _ _ _ _ us hl => match us, hl with | [_, _], _ => rfl)
  have m29 := PySem.W.mg_of X G a29
  have F30 := fun_mk (st := s_scTaken) l30 e30 k30
  have b30 := F30.binds (ps := ["_law_dues", "_law_rows", "_law_gang_here"]) (fun _ _ _ _ _ _ us hl => match us, hl with | [_, _, _], _ => rfl)
  have m30 := PySem.W.mg_of X G a30
  have F31 := fun_mk (st := s_scRight) l31 e31 k31
  have b31 := F31.binds (ps := ["_law_dues", "_law_rows", "_law_names", "_law_gang_here"]) (fun _ _ _ _ _ _ us hl => match us, hl with | [_, _, _, _], _ => rfl)
  have m31 := PySem.W.mg_of X G a31
  have F32 := fun_mk (st := s_scLaw) l32 e32 k32
  have w1 := PySem.W.mg_of X G y1
  have w2 := PySem.W.mg_of X G y2
  have W : Txt mg := ⟨PySem.W.mg_none_of X G z1, PySem.W.mg_none_of X G z2, PySem.W.mg_none_of X G z3, PySem.W.mg_none_of X G z4, PySem.W.mg_none_of X G z5, PySem.W.mg_none_of X G z6, PySem.W.mg_none_of X G z7, PySem.W.mg_none_of X G z8, PySem.W.mg_none_of X G z9, PySem.W.mg_none_of X G z10, PySem.W.mg_none_of X G z11, PySem.W.mg_none_of X G z12, PySem.W.mg_none_of X G z13⟩
  have q_sum := PySem.W.mg_none_of X G z14
  have q_dict := PySem.W.mg_none_of X G z15
  have q_sorted := PySem.W.mg_none_of X G z16
  have q_reversed := PySem.W.mg_none_of X G z17
  refine ⟨PySem.W.fnOf "law" "law" (defArgs s_scLaw) (defBody s_scLaw) (defScope s_scLaw) .none kV32 dc32 pm32 an32 cd32 ct32, [(c3, T3)], spLaw K [T3], fun p hp => ?_, fun p hp => ?_, fun p hp => ?_, fun s v => .of_eq rfl, fun H a ns hl _ hT hS => ⟨a, ns, rfl, hS, hl, fun T hm => ?_, fun _ => rfl⟩, fun base _ _ TB => ?_⟩
  · have e := List.mem_singleton.mp hp
    rw [e]; exact g3
  · have e := List.mem_singleton.mp hp
    rw [e]; exact n3
  · have e := List.mem_singleton.mp hp
    rw [e]; exact h3
  · have e := List.mem_singleton.mp hm
    rw [e]; exact ⟨#[], hT (c3, T3) List.mem_cons_self, trivial⟩
  · obtain ⟨p1_3, p2_3, p3_3⟩ := TB (c3, T3) List.mem_cons_self
    have B3 : GxR.TabB base mg c3 T3 := ⟨p1_3, p2_3, p3_3⟩
    exact ok_law F32 W q_reversed (ok_state F24 W q_dict q_sum (ok_box F20 W) m20 F20.kp b20 (ok_take F21) m21 F21.kp b21 (ok_gang F22 W (ok_take F21) m21 F21.kp b21) m22 F22.kp b22 (ok_due F23 W (ok_take F21) m21 F21.kp b21) m23 F23.kp b23) m24 F24.kp b24 (ok_right F31 W q_dict (ok_taken F30 W q_reversed (ok_lguild F29) m29 F29.kp b29 (ok_lfit F28 W) m28 F28.kp b28 (ok_lpart F27 W (ok_order F26 W) m26 F26.kp b26) m27 F27.kp b27 (ok_order F26 W) m26 F26.kp b26) m30 F30.kp b30 (ok_sameS F25 W m25 b25 (ok_sameS F25 W m25 b25 (ok_same0 (k := 6) F25 W))) m25 F25.kp b25 (ok_may F19 (ok_gof F12) m12 F12.kp b12 (ok_lent F16 q_sorted (ok_gof F12) m12 F12.kp b12 (ok_parted F11 (ok_partg (Ts := [T3]) F10 W (by simp) (by simp) (by simp) (ok_nothing F1) m1 F1.kp b1 ((ok_sum F2 W).imp (zip_tab T3)) m2 F2.kp b2 (ok_fits C3 W B3) m3 F3.kp b3 ((ok_whole F7 (ok_times F4 W) m4 F4.kp b4).imp (whole_tab T3)) m7 F7.kp b7 (ok_inord F9 q_sorted (ok_place F8 (ok_rank (k := 0) F6) m6 F6.kp b6) m8 b8) m9 F9.kp b9) m10 F10.kp b10 (ok_gname F5) m5 F5.kp b5) m11 F11.kp b11 (ok_rof F15 (ok_gof F12) m12 F12.kp b12) m15 F15.kp b15) m16 F16.kp b16 (ok_owed (Ts := [T3]) F13 (by simp) (by simp) (by simp) (ok_partg (Ts := [T3]) F10 W (by simp) (by simp) (by simp) (ok_nothing F1) m1 F1.kp b1 ((ok_sum F2 W).imp (zip_tab T3)) m2 F2.kp b2 (ok_fits C3 W B3) m3 F3.kp b3 ((ok_whole F7 (ok_times F4 W) m4 F4.kp b4).imp (whole_tab T3)) m7 F7.kp b7 (ok_inord F9 q_sorted (ok_place F8 (ok_rank (k := 1) F6) m6 F6.kp b6) m8 b8) m9 F9.kp b9) m10 F10.kp b10 ((ok_sum F2 W).imp (zip_tab T3)) m2 F2.kp b2 (ok_fits C3 W B3) m3 F3.kp b3 ((ok_whole F7 (ok_times F4 W) m4 F4.kp b4).imp (whole_tab T3)) m7 F7.kp b7) m13 F13.kp b13 (ok_ownw F14 W (ok_parted F11 (ok_partg (Ts := [T3]) F10 W (by simp) (by simp) (by simp) (ok_nothing F1) m1 F1.kp b1 ((ok_sum F2 W).imp (zip_tab T3)) m2 F2.kp b2 (ok_fits C3 W B3) m3 F3.kp b3 ((ok_whole F7 (ok_times F4 W) m4 F4.kp b4).imp (whole_tab T3)) m7 F7.kp b7 (ok_inord F9 q_sorted (ok_place F8 (ok_rank (k := 0) F6) m6 F6.kp b6) m8 b8) m9 F9.kp b9) m10 F10.kp b10 (ok_gname F5) m5 F5.kp b5) m11 F11.kp b11 (ok_gname F5) m5 F5.kp b5) m14 F14.kp b14 (ok_rof F15 (ok_gof F12) m12 F12.kp b12) m15 F15.kp b15 (ok_inord F9 q_sorted (ok_place F8 (ok_rank (k := 3) F6) m6 F6.kp b6) m8 b8) m9 F9.kp b9 (ok_gname F5) m5 F5.kp b5 (ok_rank F6) m6 F6.kp b6 (ok_gr1 F17 w1) m17 F17.kp b17 (ok_gr2 F18 w1 w2) m18 F18.kp b18) m19 F19.kp b19) m31 F31.kp b31 (ok_may F19 (ok_gof F12) m12 F12.kp b12 (ok_lent F16 q_sorted (ok_gof F12) m12 F12.kp b12 (ok_parted F11 (ok_partg (Ts := [T3]) F10 W (by simp) (by simp) (by simp) (ok_nothing F1) m1 F1.kp b1 ((ok_sum F2 W).imp (zip_tab T3)) m2 F2.kp b2 (ok_fits C3 W B3) m3 F3.kp b3 ((ok_whole F7 (ok_times F4 W) m4 F4.kp b4).imp (whole_tab T3)) m7 F7.kp b7 (ok_inord F9 q_sorted (ok_place F8 (ok_rank (k := 1) F6) m6 F6.kp b6) m8 b8) m9 F9.kp b9) m10 F10.kp b10 (ok_gname F5) m5 F5.kp b5) m11 F11.kp b11 (ok_rof F15 (ok_gof F12) m12 F12.kp b12) m15 F15.kp b15) m16 F16.kp b16 (ok_owed (Ts := [T3]) F13 (by simp) (by simp) (by simp) (ok_partg (Ts := [T3]) F10 W (by simp) (by simp) (by simp) (ok_nothing F1) m1 F1.kp b1 ((ok_sum F2 W).imp (zip_tab T3)) m2 F2.kp b2 (ok_fits C3 W B3) m3 F3.kp b3 ((ok_whole F7 (ok_times F4 W) m4 F4.kp b4).imp (whole_tab T3)) m7 F7.kp b7 (ok_inord F9 q_sorted (ok_place F8 (ok_rank (k := 2) F6) m6 F6.kp b6) m8 b8) m9 F9.kp b9) m10 F10.kp b10 ((ok_sum F2 W).imp (zip_tab T3)) m2 F2.kp b2 (ok_fits C3 W B3) m3 F3.kp b3 ((ok_whole F7 (ok_times F4 W) m4 F4.kp b4).imp (whole_tab T3)) m7 F7.kp b7) m13 F13.kp b13 (ok_ownw F14 W (ok_parted F11 (ok_partg (Ts := [T3]) F10 W (by simp) (by simp) (by simp) (ok_nothing F1) m1 F1.kp b1 ((ok_sum F2 W).imp (zip_tab T3)) m2 F2.kp b2 (ok_fits C3 W B3) m3 F3.kp b3 ((ok_whole F7 (ok_times F4 W) m4 F4.kp b4).imp (whole_tab T3)) m7 F7.kp b7 (ok_inord F9 q_sorted (ok_place F8 (ok_rank (k := 1) F6) m6 F6.kp b6) m8 b8) m9 F9.kp b9) m10 F10.kp b10 (ok_gname F5) m5 F5.kp b5) m11 F11.kp b11 (ok_gname F5) m5 F5.kp b5) m14 F14.kp b14 (ok_rof F15 (ok_gof F12) m12 F12.kp b12) m15 F15.kp b15 (ok_inord F9 q_sorted (ok_place F8 (ok_rank (k := 4) F6) m6 F6.kp b6) m8 b8) m9 F9.kp b9 (ok_gname F5) m5 F5.kp b5 (ok_rank F6) m6 F6.kp b6 (ok_gr1 F17 w1) m17 F17.kp b17 (ok_gr2 F18 w1 w2) m18 F18.kp b18) m19 F19.kp b19 (ok_box F20 W) m20 F20.kp b20 (ok_take F21) m21 F21.kp b21
end My
open PySem PySem.W PyProof.Rows
set_option maxHeartbeats 0 in
theorem PySem.Challenge.cw_clusterhall_k28_whom_one_may_take_from_holds : PySem.Challenge.rw_clusterhall_k28_whom_one_may_take_from.Holds := by
  w_on; o_law; k_head; (case hw => w_witness2)
  k_fill
  refine My.walk_tabs (l := PySem.Challenge.rw_clusterhall_k28_whom_one_may_take_from) (n := 63) (k := 11) (x := "_law_script") rfl (by decide) rfl ⟨rfl, by decide, by decide⟩ (fun w h Y => PySem.W.kIn_of Y) ?F
  case F =>
    intro w mg mb mean fa h KT KX hmg
    refine' My.all_mk KX KT hmg ?a1 ?l1 ?e1 ?k1 ?a2 ?l2 ?e2 ?k2 ?a3 ?l3 ?e3 ?k3 ?u3 ?v3 ?n3 ?r3 ?a4 ?l4 ?e4 ?k4 ?a5 ?l5 ?e5 ?k5 ?a6 ?l6 ?e6 ?k6 ?a7 ?l7 ?e7 ?k7 ?a8 ?l8 ?e8 ?k8 ?a9 ?l9 ?e9 ?k9 ?a10 ?l10 ?e10 ?k10 ?a11 ?l11 ?e11 ?k11 ?a12 ?l12 ?e12 ?k12 ?a13 ?l13 ?e13 ?k13 ?a14 ?l14 ?e14 ?k14 ?a15 ?l15 ?e15 ?k15 ?a16 ?l16 ?e16 ?k16 ?a17 ?l17 ?e17 ?k17 ?a18 ?l18 ?e18 ?k18 ?a19 ?l19 ?e19 ?k19 ?a20 ?l20 ?e20 ?k20 ?a21 ?l21 ?e21 ?k21 ?a22 ?l22 ?e22 ?k22 ?a23 ?l23 ?e23 ?k23 ?a24 ?l24 ?e24 ?k24 ?a25 ?l25 ?e25 ?k25 ?a26 ?l26 ?e26 ?k26 ?a27 ?l27 ?e27 ?k27 ?a28 ?l28 ?e28 ?k28 ?a29 ?l29 ?e29 ?k29 ?a30 ?l30 ?e30 ?k30 ?a31 ?l31 ?e31 ?k31 ?a32 ?l32 ?e32 ?k32 ?z1 ?z2 ?z3 ?z4 ?z5 ?z6 ?z7 ?z8 ?z9 ?z10 ?z11 ?z12 ?z13 ?z14 ?z15 ?z16 ?z17 ?y1 ?y2
    (case a1 => k_is)
    (case l1 => k_is)
    (case e1 => k_is)
    (case k1 => k_is)
    (case a2 => k_is)
    (case l2 => k_is)
    (case e2 => k_is)
    (case k2 => k_is)
    (case a3 => k_is)
    (case l3 => k_is)
    (case e3 => k_is)
    (case k3 => k_is)
    (case u3 => k_is)
    (case v3 => rfl)
    (case n3 => first | rfl | decide | (with_unfolding_all rfl))
    (case r3 => decide +kernel)
    (case a4 => k_is)
    (case l4 => k_is)
    (case e4 => k_is)
    (case k4 => k_is)
    (case a5 => k_is)
    (case l5 => k_is)
    (case e5 => k_is)
    (case k5 => k_is)
    (case a6 => k_is)
    (case l6 => k_is)
    (case e6 => k_is)
    (case k6 => k_is)
    (case a7 => k_is)
    (case l7 => k_is)
    (case e7 => k_is)
    (case k7 => k_is)
    (case a8 => k_is)
    (case l8 => k_is)
    (case e8 => k_is)
    (case k8 => k_is)
    (case a9 => k_is)
    (case l9 => k_is)
    (case e9 => k_is)
    (case k9 => k_is)
    (case a10 => k_is)
    (case l10 => k_is)
    (case e10 => k_is)
    (case k10 => k_is)
    (case a11 => k_is)
    (case l11 => k_is)
    (case e11 => k_is)
    (case k11 => k_is)
    (case a12 => k_is)
    (case l12 => k_is)
    (case e12 => k_is)
    (case k12 => k_is)
    (case a13 => k_is)
    (case l13 => k_is)
    (case e13 => k_is)
    (case k13 => k_is)
    (case a14 => k_is)
    (case l14 => k_is)
    (case e14 => k_is)
    (case k14 => k_is)
    (case a15 => k_is)
    (case l15 => k_is)
    (case e15 => k_is)
    (case k15 => k_is)
    (case a16 => k_is)
    (case l16 => k_is)
    (case e16 => k_is)
    (case k16 => k_is)
    (case a17 => k_is)
    (case l17 => k_is)
    (case e17 => k_is)
    (case k17 => k_is)
    (case a18 => k_is)
    (case l18 => k_is)
    (case e18 => k_is)
    (case k18 => k_is)
    (case a19 => k_is)
    (case l19 => k_is)
    (case e19 => k_is)
    (case k19 => k_is)
    (case a20 => k_is)
    (case l20 => k_is)
    (case e20 => k_is)
    (case k20 => k_is)
    (case a21 => k_is)
    (case l21 => k_is)
    (case e21 => k_is)
    (case k21 => k_is)
    (case a22 => k_is)
    (case l22 => k_is)
    (case e22 => k_is)
    (case k22 => k_is)
    (case a23 => k_is)
    (case l23 => k_is)
    (case e23 => k_is)
    (case k23 => k_is)
    (case a24 => k_is)
    (case l24 => k_is)
    (case e24 => k_is)
    (case k24 => k_is)
    (case a25 => k_is)
    (case l25 => k_is)
    (case e25 => k_is)
    (case k25 => k_is)
    (case a26 => k_is)
    (case l26 => k_is)
    (case e26 => k_is)
    (case k26 => k_is)
    (case a27 => k_is)
    (case l27 => k_is)
    (case e27 => k_is)
    (case k27 => k_is)
    (case a28 => k_is)
    (case l28 => k_is)
    (case e28 => k_is)
    (case k28 => k_is)
    (case a29 => k_is)
    (case l29 => k_is)
    (case e29 => k_is)
    (case k29 => k_is)
    (case a30 => k_is)
    (case l30 => k_is)
    (case e30 => k_is)
    (case k30 => k_is)
    (case a31 => k_is)
    (case l31 => k_is)
    (case e31 => k_is)
    (case k31 => k_is)
    (case a32 => k_is)
    (case l32 => k_is)
    (case e32 => k_is)
    (case k32 => k_is)
    (case z1 => k_is)
    (case z2 => k_is)
    (case z3 => k_is)
    (case z4 => k_is)
    (case z5 => k_is)
    (case z6 => k_is)
    (case z7 => k_is)
    (case z8 => k_is)
    (case z9 => k_is)
    (case z10 => k_is)
    (case z11 => k_is)
    (case z12 => k_is)
    (case z13 => k_is)
    (case z14 => k_is)
    (case z15 => k_is)
    (case z16 => k_is)
    (case z17 => k_is)
    (case y1 => k_is)
    (case y2 => k_is)

