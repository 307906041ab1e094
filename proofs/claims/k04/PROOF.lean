import PyProof.Rows.All
import Wide.All
import OpenK.AllK
import Wide.FinOn
import PyProof.ReprRoads
import PyProof.ReprLen
import PyProof.FitsInt
import Flt.Len
import HandS.ForMost
import HandS.Wide
import HandS.IsInst
import HandS.ForExc
import HandS.ExcField
import HandS.ExcInit
import HandS.Dict
import HandS.More
import HandS.SlotsOwn
import PyProof.InstNe
import KE.KExcIs
import HandS.ExcIs
import HandS.FStr
import HandS.IsInst
import HandS.Codes
import KE.KCallOwn
import PyProof.StrBlock2
import HandS.ClsMeth
import HandS.StrMore
import HandS.Text
import HandS.HotCalls
import HandS.SuiteRaise
import HandS.RaiseFrom
import HandS.ExcInitHot
import KE.KTryMore
import HandS.TryOnly
import HandS.Style
import PyProof.Rows.ReprOcc
import HandS.Iter
import PySem.Challenge.RW_widerkeys_k04_texts_of_kinds
set_option Elab.async false
set_option linter.all false
set_option maxRecDepth 100000
set_option maxHeartbeats 4000000

namespace Zg
open PySem PySem.Spec PyProof.Rows L2

/-! ### powers -/
def CPowZ (i j : Int) : Prop := 0 ≤ j ∧ (Builtin.Int.intBits i : Int) * j ≤ 2 ^ 27
theorem op_powZ {X : Cx} : OpR X (binaryOp .Pow) (rI CPowZ fun i j => .int (i ^ j.toNat)) :=
  opI fun _ _ _ _ _ _ _ hc q => pow_int hc.1 hc.2 q

/-! ### no repr runs around -/
/-- no repr runs around -/
def Calm (A : Around) : Prop := A.guards = some []
theorem Calm.deeper {A : Around} {env : Env} (h : Calm A) : Calm (A.deeper env) := h

/-- repr(x), x data at any depth -/
def rReprD (K : PySem.W.Frag) : List V → Hp → VK → Prop := fun xs H Q =>
  ∃ (x : V) (d : PyData), xs = [x] ∧ Dp K H x d ∧ d.showable = true ∧ d.hasDict = false ∧
    d.depth ≤ 64 ∧ d.shown.length ≤ sizeLine ∧ (∀ i, x = .int i → i.natAbs.log2 < 1920) ∧ Q (.str d.shown) H
theorem call_reprD {X : Cx} (hg : Calm X.A) (hu : X.A.units + 70 < cLine) : CallR X (.builtin "repr") (rReprD X.K) := by
  intro pins s σ H xs us Q I r h
  obtain ⟨x, d, rfl, hd, hs, hn, hdep, hsz, hi, q⟩ := h
  obtain ⟨u, rfl, rx⟩ := vals1 r
  obtain ⟨as, rd⟩ := Dp.reads I d x u hd rx
  have nod : d.hasDict = true → sysModules ∉ as := fun z => by rw [hn] at z; cases z
  cases hd with
  | non =>
    cases rx
    exact PySem.P.repr_of_none ⟨.str _, H, I.tok _, ⟨_, rfl⟩, q⟩
  | bl b =>
    cases rx
    refine PySem.P.repr_of_bool ⟨.str _, H, I.tok _, ⟨_, rfl⟩, ?_⟩
    cases b <;> exact q
  | int i =>
    obtain ⟨t, rfl⟩ := rx
    exact PySem.P.repr_of_int (hi i rfl) ⟨.str _, H, I.tok _, ⟨_, rfl⟩, q⟩
  | str z =>
    obtain ⟨t, rfl⟩ := rx
    exact PySem.P.repr_of_str ⟨.str _, H, I.tok _, ⟨_, rfl⟩, q⟩ hsz
  | lst h1 h2 =>
    cases rx
    refine repr_of_reads' rd hs nod hg (by omega) (fun _ _ e => e) (fun h' u tk hk => ?_) hsz
    exact ⟨.str _, H, I.kept (t' := tk) hk, ⟨_, rfl⟩, q⟩
  | tup h1 h2 =>
    cases rx
    refine repr_of_reads' rd hs nod hg (by omega) (fun _ _ e => e) (fun h' u tk hk => ?_) hsz
    exact ⟨.str _, H, I.kept (t' := tk) hk, ⟨_, rfl⟩, q⟩

/-! ### defs that are called where no repr runs -/
section
variable {P : Program} {w : World} {K : PySem.W.Frag} {mg : Str → Option Value} {base : Heap} {CX : CXT} {k : Nat} {f : Addr} {fd : FuncData} {ps : List Str} {sp : Sp}
/-- a def keeps its promise wherever it is called with no repr around -/
structure FnG (P : Program) (w : World) (K : PySem.W.Frag) (mg : Str → Option Value) (base : Heap) (CX : CXT)
    (k : Nat) (f : Addr) (fd : FuncData) (ps : List Str) (sp : Sp) : Prop where
  many : ∀ vs H Q E, sp vs H Q E → vs.length = ps.length
  goes : ∀ (A : Around), Calm A → ∀ (fr : List Env) (s : Shared) (H : Hp) (args : Args) (us : List Value) (vs : List V) (Q : VK) (E : XK),
    Room k A → Env0 P w K mg base A fr s H → BindsTo s fd args (ps.zip us) → Vals vs us → sp vs H Q E →
      codeAny (model P w) A (.call (.ref f) args) (CR CX fr P w H s Q E) s
theorem FnG.of (F : FnOk P w K mg base CX k f fd ps sp) : FnG P w K mg base CX k f fd ps sp :=
  ⟨F.len, fun A _ fr s H args us vs Q E r e b v h => F.run A fr s H args us vs Q E r e b v h⟩
theorem FnG.up {j : Nat} (F : FnG P w K mg base CX j f fd ps sp) (h : j ≤ k) : FnG P w K mg base CX k f fd ps sp :=
  ⟨F.many, fun A c fr s H args us vs Q E r => F.goes A c fr s H args us vs Q E (r.mono h)⟩

/-- a def of the text, by its body, with no repr around -/
theorem Fun_okG {x qual : Str} {st : Stmt} {N : List Str} (F : Fun K x qual st f fd) (S : FnScope N ps (defScope st)) (len : ∀ vs H Q E, sp vs H Q E → vs.length = ps.length)
    (hbody : ∀ (cd : Value) (A : Around) (fr : List Env) (s : Shared) (H : Hp) (vs : List V) (Q : VK) (E : XK), Calm A →
      Room k (A.deeper (envOfC qual (defScope st) s.heap.objs.size f cd)) → sp vs H Q E →
        ∃ t, PSs (cxOf CX P w K mg base N qual (defScope st) f cd A fr s H E).nox (defBody st) t ∧ t { nx := fun _ H' => Q .non H', rt := Q } (start N vs) H) :
    FnG P w K mg base CX (k + 1) f fd ps sp := by
  obtain ⟨oc, od, kw, doc, pm, an, cd, ct, osl, rfl, at_f, hcd⟩ := F.ex
  constructor
  · exact len
  intro A calm fr s H args us vs Q E room e0 binds rel hsp
  have hlen := len _ _ _ _ hsp
  have stays : ∀ b o, base.get? b = some o → s.heap.get? b = some o := fun b o e => (e0.bs b o e).1
  refine codeAny_call_function room.depth (e0.mod.kin.keeps stays _ _ at_f) rfl S.co S.gen rfl (PySem.W.codeRec_of (e0.mod.kin.keeps stays) hcd) (binds _ _ _ _ ?_)
  refine wpAny_newFunctionEnv_cells S.kind (fun ⟨n, v⟩ hy => ?_) fun env he s1 inC => ?_
  · cases S.par n (List.of_mem_zip hy).1 with
    | inl z => exact .inl z
    | inr z => exact .inr ⟨z, PySem.W.cellsFrom_some _ _ _ (.inl z)⟩
  subst he
  refine ⟨(e0.mod.nolimit.keeps stays).keeps inC.toInCall.keep, codeAny_func ?_⟩
  obtain ⟨t, ht, hq⟩ := hbody cd A fr s H vs Q E calm (room.deeper _) hsp
  refine wpAny_mono (ht.nox.run [] s1 (start N vs) H _ (inv_start (CX := CX) S room.hd e0 hlen rel inC) hq) (fun fl s' z => ?_) fun _ _ z => z
  match fl, z with
  | .ret _, ⟨v, _, H', J, rv, q⟩ => exact ⟨v, H', J.os, J.bare, J.base, J.hok, rv, q⟩
  | .next, ⟨_, H', J, q⟩ => exact ⟨.non, H', J.os, J.bare, J.base, J.hok, rfl, q⟩
  | .brk, ⟨_, _, _, q⟩ => exact q.elim
  | .cont, ⟨_, _, _, q⟩ => exact q.elim
end

section
variable {X : Cx} {CX : CXT} {k : Nat} {f : Addr} {fd : FuncData} {ps : List Str} {sp : Sp} {E : XK} {x : Str} {p pos : Pos} {e : Expr} {es : List Expr} {t : TA}
/-- f(e, ..) where no repr runs -/
theorem pe_callG (c : Calm X.A) (F : FnG X.prog X.w X.K X.mg X.base CX k f fd ps sp) (hr : Room k X.A) (hg : Gl X x) (hm : X.mg x = some (.ref f)) (hk : PySem.W.keepIn X.K (.ref f) = true)
    (hb : Binds X.K fd ps []) (hx : Passes CX X E) (ha : PA X (e :: es) t) (hdb : (x == ("__debug__" : Str)) = false := by decide)
    (he : starEach (e :: es) X.env = (false, eval e X.env) :: starEach es X.env := by rfl) (hpl : (backTo pos (starEach es X.env)).any (·.1) = false := by rfl) :
    PE X (.Call (.Name x p) (e :: es) [] pos) (tCall sp [] E t) := by
  constructor
  intro pins s σ H Q I h
  refine wpAny_Call_Name_kw (ld_glob I hg hm (PySem.W.callWith_K (h₀ := X.base) I.ok.mod.kin hk (thn (ha.run pos pins s σ H _ I h) fun us s1 z => ?_) he hpl) hdb)
  obtain ⟨vs, H1, J, rel, q⟩ := z
  have q' : sp vs H1 Q E := by rw [← List.append_nil vs]; exact q
  have hl : (us ++ []).length = ps.length := by rw [List.append_nil, ← rel.length]; exact F.many _ _ _ _ q'
  have b := hb s1 us J.kIn hl
  rw [List.append_nil] at b
  refine ⟨J.kIn, wpAny_call (codeAny_mono (F.goes X.A c X.stack s1 H1 ⟨us, []⟩ us vs Q E hr J.env0 b rel q') fun r s2 z => ?_)⟩
  match r, z with
  | .error _, z => exact hx pins σ H1 s1 _ s2 J z
  | .ok (.ret _), z => exact J.after z
  | .ok .next, z => exact z.elim
  | .ok .brk, z => exact z.elim
  | .ok .cont, z => exact z.elim
end

/-! ### the law's own call -/
/-- the script alone is tracked, or nothing -/
def track (a : Addr) (o : HO) : Hp := fun b => if b = a then some o else none
theorem track_at {a : Addr} {o : HO} : track a o a = some o := if_pos rfl
theorem track_off {a b : Addr} {o : HO} (h : b ≠ a) : track a o b = none := if_neg h

theorem lawG {P : Program} {w : World} {K : PySem.W.Frag} {mg mb : Str → Option Value} {k : Nat} {fa a : Addr} {fd : FuncData} {x : Str} {sp : Sp} {s : Shared} {us : List Value} {ns : List Int}
    (kin : K.In s.heap) (gl : s.heap.Ns mainGlobals mg) (bl : s.heap.Ns builtinsNs mb) (bb : ∀ x : Str, x ≠ "__name__" → mb x = bootBuiltins x) (lim : s.heap.NoLimit) (gens : s.gens = #[])
    (ha : s.heap.get? a = some { cls := .type "list", data := .seq us.toArray }) (whole : IntsAre us ns) (line : ns.length ≤ sizeLine) (room : Room k callerA)
    (F : ∀ base : Heap, K.In base → base.Ns mainGlobals mg → FnG P w K mg base CX0 k fa fd [x] sp)
    (bind : ∀ (s : Shared) (u : Value), BindsTo s fd ⟨[u], []⟩ [(x, u)])
    (hsp : ∀ H : Hp, SqL K H a (ns.map V.int) → sp [.ref a] H (fun v _ => v = .bl true) fun _ _ _ => False) :
    codeAny (model P w) callerA (.call (.ref fa) ⟨[.ref a], []⟩) (fun r s' => r = .ok (.ret (.bool true)) ∧ OldK s.heap s'.heap ∧ s'.os = s.os ∧ AllBare s'.gens) s := by
  have rel := vals_ints whole
  have size := whole.length
  -- H: the script, or nothing; what H does not track is in the base
  have go : ∀ H : Hp, SqL K H a (ns.map V.int) → HOk P w H s.heap → (∀ b u, H b = some u → b = a ∧ K.lookup a = none ∧ ∃ o xs, u = .frz o (.lst xs)) →
      codeAny (model P w) callerA (.call (.ref fa) ⟨[.ref a], []⟩) (fun r s' => r = .ok (.ret (.bool true)) ∧ OldK s.heap s'.heap ∧ s'.os = s.os ∧ AllBare s'.gens) s := by
    intro H hS hok only
    have free : ∀ {b : Addr}, b ≠ a → H b = none := fun {b} hb => by
      cases q : H b with
      | none => rfl
      | some u => exact absurd (only b u q).1 hb
    have notDict : ∀ {b : Addr} {o : Obj} {es : Array DictEntry} {n : Nat}, s.heap.get? b = some o → o.data = .dict es n → b ≠ a := fun {b o es n} e d z => by
      subst z
      rw [ha] at e
      have e' := Option.some.inj e
      subst e'
      cases d
    have keepNs : ∀ {b : Addr} {m : Str → Option Value}, s.heap.Ns b m → (hidT s.heap H).Ns b m := fun {b m} z => by
      obtain ⟨o, es, n, e, d, r⟩ := z
      exact ⟨o, es, n, hidT_get e (free (notDict e d)), d, r⟩
    have kinB : K.In (hidT s.heap H) := fun b o e => hidT_get (kin b o e) (by
      cases q : H b with
      | none => rfl
      | some u =>
        obtain ⟨z, no, _⟩ := only b u q
        rw [z, no] at e
        cases e)
    have limB : (hidT s.heap H).NoLimit := by
      obtain ⟨m, h1, h2⟩ := lim
      exact ⟨m, keepNs h1, h2⟩
    have e0 : Env0 P w K mg (hidT s.heap H) callerA [] s H :=
      { frames := rfl, mod := ⟨kinB, keepNs gl, ⟨mb, keepNs bl, bb⟩, limB⟩, bs := fun b o e => of_hidT e, bsz := Nat.le_of_eq (hidT_size _ _), funs := trivial,
        frf := fun b hb => (List.not_mem_nil (show b ∈ ([] : List Addr) from hb)).elim, hok := hok, bare := .of_eq gens }
    refine codeAny_mono ((F _ kinB (keepNs gl)).goes callerA rfl [] s H ⟨[.ref a], []⟩ [.ref a] [.ref a] _ _ room e0 (bind s (.ref a)) (.cons rfl .nil) (hsp H hS)) fun r s' z => ?_
    match r, z with
    | .error _, z => exact False.elim z
    | .ok .next, z => exact False.elim z
    | .ok .brk, z => exact False.elim z
    | .ok .cont, z => exact False.elim z
    | .ok (.ret u), z =>
      obtain ⟨v, H', os, bare, un, hok', rv, q⟩ := z
      have q' : v = .bl true := q
      subst q'
      obtain rfl : u = Value.bool true := rv
      refine ⟨rfl, OldK.of_keep fun b o e => ?_, os, bare⟩
      cases q : H b with
      | none => exact un.keep b o e q (List.not_mem_nil) (List.not_mem_nil)
      | some u =>
        obtain ⟨_, _, ob, xs, eu⟩ := only b u q
        subst eu
        have h1 := (hok b _ q).1
        have h2 := (hok' b _ (un.frzs b ob _ q)).1
        rw [e] at h1
        rw [h2, ← Option.some.inj h1]
  cases hk : K.lookup a with
  | none =>
    refine go (track a (.frz { cls := .type "list", data := .seq us.toArray } (.lst (ns.map V.int)))) (.inl (.inr ⟨_, track_at⟩)) (fun b u z => ?_) fun b u z => ?_
    · by_cases hb : b = a
      · subst hb
        have z' := track_at.symm.trans z
        cases z'
        exact ⟨ha, by rw [List.length_map]; exact line, us, _, rel, ha⟩
      · rw [track_off hb] at z
        cases z
    · by_cases hb : b = a
      · subst hb
        have z' := track_at.symm.trans z
        cases z'
        exact ⟨rfl, hk, _, _, rfl⟩
      · rw [track_off hb] at z
        cases z
  | some o =>
    have e := kin a o hk
    rw [ha] at e
    have e' := Option.some.inj e
    subst e'
    have small : us.toArray.size ≤ sizeLine := by rw [List.size_toArray, size]; exact line
    refine go (fun _ => none) (.inr ⟨_, us.toArray, _, hk, rfl, rfl, rfl, small, by simpa using rel⟩) (fun b u z => ?_) fun b u z => ?_
    · have z' : (none : Option HO) = some u := z
      cases z'
    · have z' : (none : Option HO) = some u := z
      cases z'

/-- what k_head leaves, from the law's promise -/
theorem walkG {l : PySem.W.OpenLaw} {n k : Nat} {q : Program} {loose : List Str} {XP : (Str → Option Value) → Heap → Prop} {YP : World → Heap → Prop} {d : DefRec} {K : Params → PySem.W.Frag} {sp : PySem.W.Frag → Sp} {x : Str}
    (most : l.most = some n) (line : n ≤ sizeLine) (nodef : d.params.defaults = []) (room : Room k callerA) (hY : ∀ (w : World) (h : Heap), YP w h → (K w.params).In h)
    (F : ∀ (w : World) (mg : Str → Option Value) (fa : Addr) (h : Heap), (K w.params).In h → h.Ns mainGlobals mg → mg d.name = some (.ref fa) →
      ∃ fd : FuncData, (∀ (s : Shared) (u : Value), BindsTo s fd ⟨[u], []⟩ [(x, u)]) ∧
        ∀ base : Heap, (K w.params).In base → base.Ns mainGlobals mg → FnG l.prog w (K w.params) mg base CX0 k fa fd [x] (sp (K w.params)))
    (hsp : ∀ (K : PySem.W.Frag) (H : Hp) (a : Addr) (ns : List Int), ns.length ≤ n → SqL K H a (ns.map V.int) → sp K [.ref a] H (fun v _ => v = .bl true) fun _ _ _ => False) :
    PySem.W.WalkO q loose XP YP l.row.toRowW d [] (fun f vs => PySem.call f vs) := by
  refine Att.attach_call most nodef fun w s0 s1 mg mb fa o pm cd doc a vs ns G Y _ _ _ named obj whole few gens => ?_
  have kin := hY w _ Y
  obtain ⟨fd, bind, all⟩ := F w mg fa _ kin G.T.g named
  exact lawG kin G.T.g G.T.b G.T.builtins G.T.nolimit gens obj whole (Nat.le_trans few line) room all bind fun H hS => hsp _ H a ns few hS
section
variable {K : PySem.W.Frag} {σ : L2.St} {H : Hp} {Q : VK} {D : Ends} {v x y : V} {i j : Int} {p q : Addr} {xs : List V} {ta tb tc te : TE} {tt tu : TT} {ts tr : TS}
theorem nn {H : Hp} {a b : Addr} {o : HO} (h' : H b = none) (h : H a = some o) : a ≠ b := ne_of_none h h'
theorem nn' {H : Hp} {a b : Addr} {o : HO} (h' : H b = none) (h : H a = some o) : b ≠ a := (ne_of_none h h').symm
theorem rd_var {n : Nat} (h : σ[n]? = some (some v)) (k : Q v H) : tVar n σ H Q := ⟨v, h, k⟩
theorem rd_c (k : Q v H) : tC v σ H Q := k
theorem rd_op {r : R2} (k : ta σ H fun x H1 => tb σ H1 fun y H2 => r x y H2 Q) : tOp r ta tb σ H Q := k
theorem rd_un {r : V → Hp → VK → Prop} (k : ta σ H fun x H1 => r x H1 Q) : tUn r ta σ H Q := k
theorem rd_I0 {g : Int → Int → V} (k : Q (g i j) H) : rI0 g (.int i) (.int j) H Q := ⟨i, j, rfl, rfl, k⟩
theorem rd_I {C : Int → Int → Prop} {g : Int → Int → V} (c : C i j) (k : Q (g i j) H) : rI C g (.int i) (.int j) H Q := ⟨i, j, rfl, rfl, c, k⟩
theorem rd_U {g : Int → V} (k : Q (g i) H) : rU g (.int i) H Q := ⟨i, rfl, k⟩
theorem rd_eq (s : scal x y = true) (k : Q (.bl (decide (x = y))) H) : rEq x y H Q := ⟨s, k⟩
theorem rd_ne (s : scal x y = true) (k : Q (.bl (!decide (x = y))) H) : rNe x y H Q := ⟨s, k⟩
theorem rd_ixL (h : H p = some (.lst xs)) (e : atI xs i = some v) (k : Q v H) : rIxL K (.ref p) (.int i) H Q := ⟨p, xs, i, v, rfl, rfl, SqL.of h, e, k⟩
theorem rd_ixLs (h : SqL K H p xs) (e : atI xs i = some v) (k : Q v H) : rIxL K (.ref p) (.int i) H Q := ⟨p, xs, i, v, rfl, rfl, h, e, k⟩
theorem rd_ixT (h : H p = some (.tup xs)) (e : atI xs i = some v) (k : Q v H) : rIxT K (.ref p) (.int i) H Q := ⟨p, xs, i, v, rfl, rfl, SqT.of h, e, k⟩
theorem rd_setL {z : V} {n : Nat} {R : Hp → Prop} (h : H p = some (.lst xs)) (e : ixN xs.length i = some n) (k : R (upd H p (.lst (xs.set n z)))) : rSetL (.ref p) (.int i) z H R := ⟨p, xs, i, n, rfl, rfl, h, e, k⟩
theorem rd_sub {to ti : TE} {t : TSet} {R : L2.St → Hp → Prop} (k : to σ H fun o H1 => ti σ H1 fun i H2 => t o i v H2 fun H3 => R σ H3) : gSub to ti t v σ H R := k
theorem rd_test {R : Bool → Hp → Prop} (k : ta σ H fun x H' => ∃ b, x = .bl b ∧ R b H') : tTest ta σ H R := k
theorem rd_tB {R : Bool → Hp → Prop} (k : ta σ H fun x H' => ∃ b, x = .bl b ∧ R b H') : tB ta σ H R := k
theorem rd_bl {b : Bool} {R : Bool → Prop} (k : R b) : ∃ c, V.bl b = .bl c ∧ R c := ⟨b, rfl, k⟩
theorem rd_chain {r r' : R2} (k : ta σ H fun x H1 => tb σ H1 fun y H2 => r x y H2 fun z H3 => ∃ b, z = .bl b ∧ if b = true then tc σ H3 fun u H4 => r' y u H4 Q else Q (.bl false) H3) : tChain r r' ta tb tc σ H Q := k
theorem rd_and {R : Bool → Hp → Prop} (k : tt σ H fun c H1 => if c = true then tu σ H1 R else R false H1) : tAnd tt tu σ H R := k
theorem rd_or {R : Bool → Hp → Prop} (k : tt σ H fun c H1 => if c = true then R true H1 else tu σ H1 R) : tOr tt tu σ H R := k
theorem rd_not {R : Bool → Hp → Prop} (k : tt σ H fun c H1 => R (!c) H1) : tNot tt σ H R := k
theorem rd_andV (k : ta σ H fun x H1 => ∃ c, x = .bl c ∧ if c = true then tb σ H1 Q else Q (.bl false) H1) : tAndV ta tb σ H Q := k
theorem rd_orV (k : ta σ H fun x H1 => ∃ c, x = .bl c ∧ if c = true then Q (.bl true) H1 else tb σ H1 Q) : tOrV ta tb σ H Q := k
theorem rd_notV (k : ta σ H fun x H1 => ∃ c, x = .bl c ∧ Q (.bl (!c)) H1) : tNotV ta σ H Q := k
theorem rd_if (k : tt σ H fun c H1 => if c = true then ta σ H1 Q else tb σ H1 Q) : tIf tt ta tb σ H Q := k
theorem rd_ifS (k : tt σ H fun b H1 => if b = true then ts D σ H1 else tr D σ H1) : tIfS tt ts tr D σ H := k
theorem rd_seq (k : ts { D with nx := tr D } σ H) : tSeq ts tr D σ H := k
theorem rd_next (k : D.nx σ H) : tNext D σ H := k
theorem rd_asg {g : TG} (k : te σ H fun x H1 => g x σ H1 D.nx) : tAsg te g D σ H := k
theorem rd_name {n : Nat} {R : L2.St → Hp → Prop} (k : R (σ.set n (some v)) H) : gName n v σ H R := k
theorem rd_gnil {R : L2.St → Hp → Prop} (k : R σ H) : gNil [] σ H R := ⟨rfl, k⟩
theorem rd_gcons {t : TG} {u : TGs} {R : L2.St → Hp → Prop} (k : t v σ H fun σ' H' => u xs σ' H' R) : gCons t u (v :: xs) σ H R := ⟨v, xs, rfl, k⟩
theorem rd_gtup {n : Nat} {t : TGs} {R : L2.St → Hp → Prop} (h : H p = some (.tup xs)) (e : xs.length = n) (k : t xs σ H R) : gTup K n t (.ref p) σ H R := ⟨p, xs, rfl, SqT.of h, e, k⟩
theorem rd_par {a b : Nat} {tA : TA} (k : tA σ H fun vs H1 => ∃ v w, vs = [v, w] ∧ D.nx ((σ.set a (some v)).set b (some w)) H1) : tPar a b tA D σ H := k
theorem rd_par2 {R : V → V → Prop} (k : R x y) : ∃ v w, [x, y] = [v, w] ∧ R v w := ⟨x, y, rfl, k⟩
theorem rd_drop (k : te σ H fun _ H1 => D.nx σ H1) : tDrop te D σ H := k
theorem rd_ret (k : te σ H D.rt) : tRet te D σ H := k
theorem rd_retN (k : D.rt .non H) : tRetN D σ H := k
theorem rd_nil {R : List V → Hp → Prop} (k : R [] H) : tNil σ H R := k
theorem rd_cons {tl : TA} {R : List V → Hp → Prop} (k : ta σ H fun x H1 => tl σ H1 fun xs H2 => R (x :: xs) H2) : tCons ta tl σ H R := k
theorem rd_tup {tA : TA} (k : tA σ H fun xs H1 => xs.length ≤ sizeLine ∧ ∀ p, H1 p = none → Q (.ref p) (upd H1 p (.tup xs))) : tTup tA σ H Q := k
theorem rd_lst {tA : TA} (k : tA σ H fun xs H1 => xs.length ≤ sizeLine ∧ ∀ p, H1 p = none → Q (.ref p) (upd H1 p (.lst xs))) : tLst tA σ H Q := k
theorem few {n : Nat} (h : n ≤ 1000) : n ≤ sizeLine := Nat.le_of_lt (small1000 h)
theorem rd_new {R : Addr → Prop} (h : xs.length ≤ 1000) (k : ∀ p, H p = none → R p) : xs.length ≤ sizeLine ∧ ∀ p, H p = none → R p := ⟨few h, k⟩
theorem rd_cb {r : List V → Hp → VK → Prop} {tA : TA} (k : tA σ H fun vs H1 => r vs H1 Q) : tCB r tA σ H Q := k
theorem rd_call {sp : Sp} {E : XK} {tA : TA} (k : tA σ H fun vs H1 => sp (vs ++ []) H1 Q E) : tCall sp [] E tA σ H Q := k
theorem rd_make {C : Addr} {sp : Sp} {E : XK} {tA : TA} (k : tA σ H fun vs H1 => ∀ x dx, H1 x = none → H1 dx = none → dx ≠ x →
  sp (.ref x :: (vs ++ [])) (upd (upd H1 dx (.own x)) x (.ins C dx [])) (fun v H2 => v = .non ∧ Q (.ref x) H2) E) : tMake C sp [] E tA σ H Q := k
theorem rd_fld {f : Str} (k : ta σ H fun x H1 => ∃ a C dx fs v, x = .ref a ∧ H1 a = some (.ins C dx fs) ∧ Cls K C ∧ NoAttr K C f ∧ fs.lookup f = some v ∧ Q v H1) : tFld K ta f σ H Q := k
theorem rd_int {R : Int → Prop} {S : Prop} (k : R i) : (∃ j, [V.int i] = [V.int j] ∧ R j) ∨ S := .inl ⟨i, rfl, k⟩
theorem rd_intB {b : Bool} {R : Bool → Prop} {S : Prop} (k : R b) : S ∨ (∃ c, [V.bl b] = [V.bl c] ∧ R c) := .inr ⟨b, rfl, k⟩
theorem rd_one {R : Int → Prop} (k : R i) : ∃ j, [V.int i] = [V.int j] ∧ R j := ⟨i, rfl, k⟩
theorem rd_two {R : Int → Int → Prop} (k : R i j) : ∃ a b, [V.int i, V.int j] = [V.int a, V.int b] ∧ R a b := ⟨i, j, rfl, k⟩
theorem rd_lenL {R : List V → Prop} (h : H p = some (.lst xs)) (k : R xs) : ∃ a ys, [V.ref p] = [V.ref a] ∧ (SqL K H a ys ∨ SqT K H a ys) ∧ R ys := ⟨p, xs, rfl, .inl (SqL.of h), k⟩
theorem rd_lenLs {R : List V → Prop} (h : SqL K H p xs) (k : R xs) : ∃ a ys, [V.ref p] = [V.ref a] ∧ (SqL K H a ys ∨ SqT K H a ys) ∧ R ys := ⟨p, xs, rfl, .inl h, k⟩
theorem rd_lenT {R : List V → Prop} (h : H p = some (.tup xs)) (k : R xs) : ∃ a ys, [V.ref p] = [V.ref a] ∧ (SqL K H a ys ∨ SqT K H a ys) ∧ R ys := ⟨p, xs, rfl, .inr (SqT.of h), k⟩
theorem rd_fldI {C dx a : Addr} {fs : List (Str × V)} {f : Str} (h : H a = some (.ins C dx fs)) (c : Cls K C) (n : NoAttr K C f) (l : fs.lookup f = some v) (k : Q v H) :
    ∃ a' C dx fs v, V.ref a = .ref a' ∧ H a' = some (.ins C dx fs) ∧ Cls K C ∧ NoAttr K C f ∧ fs.lookup f = some v ∧ Q v H := ⟨a, C, dx, fs, v, rfl, h, c, n, l, k⟩
theorem rd_ite {c : Prop} [Decidable c] {A B : Prop} (h1 : c → A) (h2 : ¬ c → B) : if decide c = true then A else B := by
  by_cases h : c
  · rw [if_pos (decide_eq_true h)]
    exact h1 h
  · rw [if_neg (by rw [decide_eq_false h]; exact Bool.false_ne_true)]
    exact h2 h
theorem rd_iteN {c : Prop} [Decidable c] {A B : Prop} (h1 : ¬ c → A) (h2 : c → B) : if (!decide c) = true then A else B := by
  by_cases h : c
  · rw [decide_eq_true h]
    exact iteF (h2 h)
  · rw [decide_eq_false h]
    exact iteT (h1 h)
theorem rd_iteB {b : Bool} {A B : Prop} (h1 : b = true → A) (h2 : b = false → B) : if b = true then A else B := by
  cases b with
  | true => exact iteT (h1 rfl)
  | false => exact iteF (h2 rfl)
end
section
variable {K : PySem.W.Frag} {H : Hp} {Q : VK} {a b c : V} {p : Addr} {xs : List V}
theorem rd_ixL0 (h : H p = some (.lst (a :: xs))) (k : Q a H) : rIxL K (.ref p) (.int 0) H Q := rd_ixL h (atI_nat (j := 0) rfl) k
theorem rd_ixL1 (h : H p = some (.lst (a :: b :: xs))) (k : Q b H) : rIxL K (.ref p) (.int 1) H Q := rd_ixL h (atI_nat (j := 1) rfl) k
theorem rd_ixL2 (h : H p = some (.lst (a :: b :: c :: xs))) (k : Q c H) : rIxL K (.ref p) (.int 2) H Q := rd_ixL h (atI_nat (j := 2) rfl) k
theorem rd_ixT0 (h : H p = some (.tup (a :: xs))) (k : Q a H) : rIxT K (.ref p) (.int 0) H Q := rd_ixT h (atI_nat (j := 0) rfl) k
theorem rd_ixT1 (h : H p = some (.tup (a :: b :: xs))) (k : Q b H) : rIxT K (.ref p) (.int 1) H Q := rd_ixT h (atI_nat (j := 1) rfl) k
theorem rd_setL0 {z : V} {R : Hp → Prop} (h : H p = some (.lst (a :: xs))) (k : R (upd H p (.lst (z :: xs)))) : rSetL (.ref p) (.int 0) z H R := rd_setL (n := 0) h (by simp [ixN]) k
theorem rd_setL2 {z : V} {R : Hp → Prop} (h : H p = some (.lst (a :: b :: c :: xs))) (k : R (upd H p (.lst (a :: b :: z :: xs)))) : rSetL (.ref p) (.int 2) z H R := rd_setL (n := 2) h (by simp [ixN]; omega) k
end
section
variable {K : PySem.W.Frag} {H : Hp} {Q : VK} {i j : Int} {p : Addr} {xs : List V}
/-- an item at an open place within -/
theorem rd_ixLr (h : H p = some (.lst xs)) (h0 : 0 ≤ i) (h1 : i < xs.length) (k : ∀ v, v ∈ xs → Q v H) : rIxL K (.ref p) (.int i) H Q := by
  have hlt : i.toNat < xs.length := by omega
  have e : xs[i.toNat]? = some xs[i.toNat] := List.getElem?_eq_getElem hlt
  exact rd_ixL h (at_of (Int.toNat_of_nonneg h0).symm e) (k _ (List.getElem_mem hlt))
theorem rd_ixLsr (h : SqL K H p xs) (h0 : 0 ≤ i) (h1 : i < xs.length) (k : ∀ v, v ∈ xs → Q v H) : rIxL K (.ref p) (.int i) H Q := by
  have hlt : i.toNat < xs.length := by omega
  have e : xs[i.toNat]? = some xs[i.toNat] := List.getElem?_eq_getElem hlt
  exact rd_ixLs h (at_of (Int.toNat_of_nonneg h0).symm e) (k _ (List.getElem_mem hlt))
/-- % hands on a letter -/
theorem rd_mod (c : 0 < j) (k : ∀ r, r = i % j → 0 ≤ r → r < j → Q (.int r) H) : rI (fun _ j => 0 < j) (fun i j => .int (i % j)) (.int i) (.int j) H Q :=
  rd_I c (k _ rfl (Int.emod_nonneg _ (by omega)) (Int.emod_lt_of_pos _ c))
theorem cmul_l (h1 : -(2 ^ 64) < i) (h2 : i < 2 ^ 64) : CMul i j := .inl ⟨h1, h2⟩
theorem cmul_r (h1 : -(2 ^ 64) < j) (h2 : j < 2 ^ 64) : CMul i j := .inr ⟨h1, h2⟩
theorem cpow (h0 : 0 ≤ j) (h1 : j ≤ 1000000) (h2 : -(2 ^ 64) < i) (h3 : i < 2 ^ 64) : CPow i j := ⟨h0, h1, by omega⟩
theorem cdivw {n : Int} (h0 : 0 < j) (h1 : j < 2 ^ 200) : CDivW n j := wide_div h0 (b := 200) (by omega) (by decide) (by decide)
end
section
variable {K : PySem.W.Frag} {σ : L2.St} {H : Hp} {Q : VK} {D : Ends} {v x y : V} {i j : Int} {a C dx : Addr} {fs : List (Str × V)} {ta te : TE} {f : Str}
theorem rd_sfld (k : te σ H fun y H1 => ta σ H1 fun x H2 => ∃ a C dx fs, x = .ref a ∧ H2 a = some (.ins C dx fs) ∧ Cls K C ∧ NoAttr K C f ∧ fs.length < 1000 ∧ D.nx σ (upd H2 a (.ins C dx (putF f y fs)))) : sFld K ta te f D σ H := k
theorem rd_sfldI {R : Hp → Prop} (h : H a = some (.ins C dx fs)) (c : Cls K C) (n : NoAttr K C f) (l : fs.length < 1000) (k : R (upd H a (.ins C dx (putF f y fs)))) :
    ∃ a' C' dx' fs', V.ref a = .ref a' ∧ H a' = some (.ins C' dx' fs') ∧ Cls K C' ∧ NoAttr K C' f ∧ fs'.length < 1000 ∧ R (upd H a' (.ins C' dx' (putF f y fs'))) := ⟨a, C, dx, fs, rfl, h, c, n, l, k⟩
end
theorem rd_rf {R : Prop} (k : R) : V.non = V.non ∧ R := ⟨rfl, k⟩
theorem rd_bm {K : PySem.W.Frag} {T : String} {r : V → List V → Hp → VK → Prop} {to : TE} {t : TA} {σ : L2.St} {H : Hp} {Q : VK} (k : to σ H fun x H1 => tyV K T x H1 ∧ t σ H1 fun xs H2 => r x xs H2 Q) : tBM K T r to t σ H Q := k
local macro_rules | `(tactic| fail "z hp") => `(tactic| (with_reducible first
  | assumption
  | exact L2.upd_same
  | (refine' (L2.upd_ne ?zn).trans ?zm; (case zn => fail "z ne"); (case zm => fail "z hp"))))
local macro_rules | `(tactic| fail "z ne") => `(tactic| (with_reducible first
  | assumption
  | exact Ne.symm (by assumption)
  | exact Zg.nn (by assumption) (by assumption)
  | exact Zg.nn' (by assumption) (by assumption)
  | (refine' Zg.nn (by assumption) ?zm; (case zm => fail "z hp"))
  | (refine' Zg.nn' (by assumption) ?zm; (case zm => fail "z hp"))))
local macro_rules | `(tactic| fail "z 1") => `(tactic| (with_reducible first
  | refine Zg.rd_var rfl ?_
  | refine Zg.rd_c ?_
  | refine Zg.rd_seq ?_
  | refine Zg.rd_asg ?_
  | refine Zg.rd_name ?_
  | refine Zg.rd_op ?_
  | refine Zg.rd_I0 ?_
  | refine Zg.rd_ret ?_
  | refine Zg.rd_ifS ?_
  | refine Zg.rd_test ?_
  | refine Zg.rd_tB ?_
  | refine Zg.rd_bl ?_
  | refine Zg.rd_un ?_
  | refine Zg.rd_U ?_
  | refine Zg.rd_cons ?_
  | refine Zg.rd_nil ?_
  | refine Zg.rd_sub ?_
  | refine Zg.rd_lst ?_
  | refine Zg.rd_tup ?_
  | refine Zg.rd_cb ?_
  | refine Zg.rd_call ?_
  | refine Zg.rd_make ?_
  | refine Zg.rd_fld ?_
  | refine Zg.rd_chain ?_
  | refine Zg.rd_and ?_
  | refine Zg.rd_or ?_
  | refine Zg.rd_not ?_
  | refine Zg.rd_andV ?_
  | refine Zg.rd_orV ?_
  | refine Zg.rd_notV ?_
  | refine Zg.rd_if ?_
  | refine Zg.rd_next ?_
  | refine Zg.rd_par ?_
  | refine Zg.rd_par2 ?_
  | refine Zg.rd_gnil ?_
  | refine Zg.rd_gcons ?_
  | refine Zg.rd_drop ?_
  | refine Zg.rd_retN ?_
  | refine Zg.rd_eq rfl ?_
  | refine Zg.rd_ne rfl ?_
  | refine Zg.rd_int ?_
  | refine Zg.rd_intB ?_
  | refine Zg.rd_one ?_
  | refine Zg.rd_two ?_
  | refine Zg.rd_sfld ?_
  | refine Zg.rd_bm ?_))
local macro_rules | `(tactic| fail "z side") => `(tactic| (with_reducible first
  | assumption
  | exact Zg.cmul_l (by omega) (by omega)
  | exact Zg.cmul_r (by omega) (by omega)
  | exact Zg.cpow (by omega) (by omega) (by omega) (by omega)
  | exact Zg.cdivw (by omega) (by omega)
  | (show (0 : Int) < _; omega)))
local macro_rules | `(tactic| fail "z 2") => `(tactic| (with_reducible first
  | (refine' Zg.rd_ixL0 ?zh ?_; (case zh => fail "z hp"))
  | (refine' Zg.rd_ixL1 ?zh ?_; (case zh => fail "z hp"))
  | (refine' Zg.rd_ixL2 ?zh ?_; (case zh => fail "z hp"))
  | (refine' Zg.rd_ixT0 ?zh ?_; (case zh => fail "z hp"))
  | (refine' Zg.rd_ixT1 ?zh ?_; (case zh => fail "z hp"))
  | (refine' Zg.rd_I ?zh ?_; (case zh => fail "z side"))
  | (refine' Zg.rd_setL0 ?zh ?_; (case zh => fail "z hp"))
  | (refine' Zg.rd_setL2 ?zh ?_; (case zh => fail "z hp"))
  | (refine' Zg.rd_lenL ?zh ?_; (case zh => fail "z hp"))
  | (refine' Zg.rd_lenT ?zh ?_; (case zh => fail "z hp"))
  | (refine' Zg.rd_new ?zh ?_; (case zh => exact (Nat.le_of_ble_eq_true rfl)))))
local macro_rules | `(tactic| fail "z go") => `(tactic| repeat (first | fail "z 1" | fail "z 2"))
local macro_rules | `(tactic| fail "z run") => `(tactic| repeat (first | fail "z 1" | fail "z 2" | (with_reducible first | refine L2.iteT ?_ | refine L2.iteF ?_ | refine Zg.rd_rf ?_)))
/-! ### own operators of instances -/
section
variable {X : Cx} {CX : CXT} {pins : List (Addr × Obj)} {σ : L2.St} {H : Hp} {s : Shared} {C g : Addr} {fd : FuncData} {ps : List Str} {k : Nat} {sp : Sp} {E : XK}
theorem run_in {A : Around} {Q : VK} {us : List Value} {ws : List V} (F : FnOk X.prog X.w X.K X.mg X.base CX k g fd ps sp) (hr : Room k A) (hb : Binds X.K fd ps []) (e0 : Env0 X.prog X.w X.K X.mg X.base A X.stack s H)
    (hx : Passes CX X E) (I : Inv X pins σ H s) (r : Vals ws us) (h : sp ws H Q E) : wpAny (model X.prog X.w) A (call (.ref g) us) (EP X pins σ Q) X.xe s := by
  have hl : (us ++ []).length = ps.length := by rw [List.append_nil, ← r.length]; exact F.len _ _ _ _ h
  have b := hb s us I.kIn hl
  rw [List.append_nil] at b
  refine wpAny_call (codeAny_mono (F.run A X.stack s H ⟨us, []⟩ us ws Q E hr e0 b r h) fun r s' hq => ?_)
  match r, hq with
  | .error e, z => exact hx pins σ H s e s' I z
  | .ok (.ret _), z => exact I.after z
  | .ok .next, z => exact z.elim
  | .ok .brk, z => exact z.elim
  | .ok .cont, z => exact z.elim
/-- x op y, two instances of the class at C whose def for op is at g -/
def rOwnI (C : Addr) (sp : Sp) (E : XK) : R2 := fun x y H Q => ∃ a dx fs b dy gs, x = .ref a ∧ y = .ref b ∧ H a = some (.ins C dx fs) ∧ H b = some (.ins C dy gs) ∧ sp [x, y] H Q E
theorem op_cmpI {op : CmpOp} (hop : ∀ a b, compareOp op a b = richCompare op a b) (hs : PySem.W.findIn X.K (.ref C) (cmpInfo op).2.1 = some (some (.ref g))) (hf : PySem.W.isFn X.K (.ref g) = true)
    (F : FnOk X.prog X.w X.K X.mg X.base CX k g fd ps sp) (hr : Room k X.A) (hb : Binds X.K fd ps []) (hx : Passes CX X E) : OpR X (compareOp op) (rOwnI C sp E) := by
  intro pins s σ H x y v u Q I rx ry h
  obtain ⟨a, dx, fs, b, dy, gs, rfl, rfl, ha, hb', q⟩ := h
  cases (show v = Value.ref a from rx)
  cases (show u = Value.ref b from ry)
  obtain ⟨mA, O, _⟩ := ins_get I.hok ha
  obtain ⟨od, J, _⟩ := O.look
  obtain ⟨mB, O', _⟩ := ins_get I.hok hb'
  obtain ⟨od', J', _⟩ := O'.look
  obtain ⟨m, hF⟩ := I.fr
  rw [hop]
  refine PySem.W.cmp_K (op := op) (tb := .ref C) hr.units0 hF I.ok.mod.kin J J'.type (by simp [PySem.W.notFirst]) hs hf ?_
  refine wpAny_mono (run_in (us := [.ref a, .ref b]) (ws := [.ref a, .ref b]) F hr hb I.env0 hx I (.cons rfl (.cons rfl .nil)) q) (fun w s' z => ?_) fun _ _ x => x
  obtain ⟨z', H', I', rz, qz⟩ := z
  exact SlX.cmpback rz ⟨z', H', I', rz, qz⟩
theorem op_binI {op : Operator} (hc : PySem.W.selfFirst X.K C = true) (hs : PySem.W.findIn X.K (.ref C) (PySem.dunder op.info.2) = some (some (.ref g))) (hf : PySem.W.isFn X.K (.ref g) = true)
    (F : FnOk X.prog X.w X.K X.mg X.base CX k g fd ps sp) (hr : Room k X.A) (hb : Binds X.K fd ps []) (hx : Passes CX X E) : OpR X (binaryOp op) (rOwnI C sp E) := by
  intro pins s σ H x y v u Q I rx ry h
  obtain ⟨a, dx, fs, b, dy, gs, rfl, rfl, ha, hb', q⟩ := h
  cases (show v = Value.ref a from rx)
  cases (show u = Value.ref b from ry)
  obtain ⟨mA, O, _⟩ := ins_get I.hok ha
  obtain ⟨od, J, _⟩ := O.look
  obtain ⟨mB, O', _⟩ := ins_get I.hok hb'
  obtain ⟨od', J', _⟩ := O'.look
  obtain ⟨m, hF⟩ := I.fr
  refine PySem.W.binop_K hF I.ok.mod.kin J J'.type hc hs hf ?_
  refine wpAny_mono (run_in (us := [.ref a, .ref b]) (ws := [.ref a, .ref b]) F hr hb I.env0 hx I (.cons rfl (.cons rfl .nil)) q) (fun w s' z => ?_) fun _ _ x => x
  obtain ⟨z', H', I', rz, qz⟩ := z
  exact SlX.cmpback rz ⟨z', H', I', rz, qz⟩
end
section
variable {M : Model} {prog : Program} {w : World} {A : Around} {E : Value → Shared → Prop} {s : Shared} {K : PySem.W.Frag} {x C f : Addr} {ox : Obj} {od : Option Obj} {b : Value}
theorem ifBound_ne {args : List Value} {Q : Option Value → Shared → Prop} (X : K.In s.heap) (I : PySem.W.InstAt s.heap x ox C od) (hs : PySem.W.findIn K (.ref C) "__ne__" = some (some (.builtin "object.__ne__")))
    (h : wpAny M A (call (.builtin "object.__ne__") (.ref x :: args)) (fun v => Q (some v)) E s) : wpAny M A (callSpecialIfBound? (.ref x) "__ne__" args) Q E s := by
  simp only [callSpecialIfBound?, bindSpecialIfBound?]
  refine wpAny_holding (wpAny_bind (wpAny_bind (wpAny_bind (I.type.here ((PySem.W.looks_findIn X hs).here ?_)))))
  refine wpAny_bind (wpAny_askSetting (wpAny_ite ?_))
  have fin : wpAny M A (call (.builtin "object.__ne__") ([.ref x] ++ args) >>= fun v => pure (some v)) Q E s := wpAny_bind (wpAny_mono h (fun v s' h' => wpAny_pure h') fun _ _ h' => h')
  split
  · exact wpAny_bind (wpAny_of_eq (F.cmp_object.ne.bind _) (wpAny_pure (by exact fin)))
  · exact wpAny_tryCatch (wpAny_bind (wpAny_of_eq (F.cmp_object.ne.bind _) (wpAny_pure (by exact fin))))
theorem entry_ne {Q : PySem.Fin → Shared → Prop} (hu : A.units < cLine) (X : K.In s.heap) (I : PySem.W.InstAt s.heap x ox C od) (hs : PySem.W.findIn K (.ref C) "__eq__" = some (some (.ref f))) (hf : PySem.W.isFn K (.ref f) = true)
    (h : wpAny (model prog w) A (call (.ref f) [.ref x, b]) (fun v s' => ∃ c, v = .bool c ∧ Q (.done (.ret (.bool (!c)))) s') E s) : wpAny (model prog w) A (Builtin.«object.__ne__» ⟨[.ref x, b], []⟩) Q E s := by
  unfold Builtin.«object.__ne__»
  repeat (first
    | with_reducible refine wpAny_cRoomFor hu ?_
    | (refine wpAny_bind (m := callSpecialIfBound? (.ref x) (Str.ofString "__eq__") [b])
        (PySem.W.ifBound_K X I hs hf (wpAny_mono h (fun r s' hr => by
          obtain ⟨c, rfl, hq⟩ := hr
          repeat (first | exact hq | exact wpAny_pure hq | exact wpAny_truthy_bool hq | (refine wpAny_bind (m := truthy (.bool _)) (wpAny_truthy_bool ?_)) | wp_step)) fun _ _ e => e)))
    | wp_step)
theorem ne_K {L : Addr} {h₀ : Heap} {m : Str → Option Value} {Q : Value → Shared → Prop} (hu : A.units + 1 < cLine) (F0 : PyProof.Rows.Fr h₀ L s.heap m) (X₀ : K.In h₀) (I : PySem.W.InstAt s.heap x ox C od) (hb : PySem.W.Looks (model prog w) s.heap (typeOf b) (.ref C))
    (hm : PySem.W.mroIn K C (.type "object") = some true) (hn : PySem.W.findIn K (.ref C) "__ne__" = some (some (.builtin "object.__ne__"))) (hs : PySem.W.findIn K (.ref C) "__eq__" = some (some (.ref f))) (hf : PySem.W.isFn K (.ref f) = true)
    (h : wpAny (model prog w) A.in1 (call (.ref f) [.ref x, b]) (fun v s' => ∃ c, v = .bool c ∧ Q (.bool (!c)) s') E s) : wpAny (model prog w) A (richCompare .NotEq (.ref x) b) Q E s := by
  have X := X₀.keeps F0.keep
  have one : wpAny (model prog w) A (tryCompare (.ref x) "__ne__" b) (fun r s' => ∃ v, r = some v ∧ Q v s') E s := by
    unfold tryCompare
    refine wpAny_bind (ifBound_ne X I hn (wpAny_call (codeAny_call_builtin F.cmp_object.ne.plain F.cmpEntry_ne (PySem.W.check_slot F.cmpKind_ne F.cmpSplit_ne (I.type.andThen (PySem.W.looks_mroIn X hm)) (F.cmpArgs_ne _ _)
      (entry_ne (A := A.in1) hu X I hs hf (wpAny_mono h (fun v s' hv => ?_) fun _ _ e => e))))))
    obtain ⟨c, rfl, hq⟩ := hv
    first
      | exact ⟨c, rfl, wpAny_pure ⟨_, rfl, hq⟩⟩
      | exact ⟨c, rfl, _, rfl, hq⟩
  simp only [richCompare, cmpInfo_NotEq, oneThing_ref]
  refine wpAny_holding (wpAny_bind (wpAny_cRoomFor (Nat.lt_of_succ_lt hu) ?_))
  refine wpAny_bind (I.type.here (wpAny_bind (hb.here ?_)))
  rw [show (Value.ref C != Value.ref C) = false from by simp]
  simp only [Bool.false_eq_true, if_false]
  refine wpAny_bind (wpAny_pure ?_)
  simp only [Bool.false_eq_true, if_false]
  refine wpAny_bind (wpAny_mono one (fun r s' z => ?_) fun _ _ e => e)
  obtain ⟨v, rfl, hq⟩ := z
  exact wpAny_pure hq
end
section
variable {X : Cx} {CX : CXT} {C g : Addr} {fd : FuncData} {ps : List Str} {k : Nat} {sp : Sp} {E : XK}
/-- x != y by the own == -/
def rNeI (C : Addr) (sp : Sp) (E : XK) : R2 := fun x y H Q => ∃ a dx fs b dy gs, x = .ref a ∧ y = .ref b ∧ H a = some (.ins C dx fs) ∧ H b = some (.ins C dy gs) ∧ sp [x, y] H (fun z H' => ∃ c, z = .bl c ∧ Q (.bl (!c)) H') E
theorem op_neI (hm : PySem.W.mroIn X.K C (.type "object") = some true) (hn : PySem.W.findIn X.K (.ref C) "__ne__" = some (some (.builtin "object.__ne__"))) (hs : PySem.W.findIn X.K (.ref C) "__eq__" = some (some (.ref g))) (hf : PySem.W.isFn X.K (.ref g) = true)
    (F : FnOk X.prog X.w X.K X.mg X.base CX k g fd ps sp) (hr : Room (k + 1) X.A) (hb : Binds X.K fd ps []) (hx : Passes CX X E) (hu : X.A.units + 1 < cLine) : OpR X (compareOp .NotEq) (rNeI C sp E) := by
  intro pins s σ H x y v u Q I rx ry h
  obtain ⟨a, dx, fs, b, dy, gs, rfl, rfl, ha, hb', q⟩ := h
  cases (show v = Value.ref a from rx)
  cases (show u = Value.ref b from ry)
  obtain ⟨mA, O, _⟩ := ins_get I.hok ha
  obtain ⟨od, J, _⟩ := O.look
  obtain ⟨mB, O', _⟩ := ins_get I.hok hb'
  obtain ⟨od', J', _⟩ := O'.look
  obtain ⟨m, hF⟩ := I.fr
  show wpAny _ _ (richCompare .NotEq (.ref a) (.ref b)) _ _ s
  refine ne_K hu hF I.ok.mod.kin J J'.type hm hn hs hf ?_
  refine wpAny_mono (run_in (us := [.ref a, .ref b]) (ws := [.ref a, .ref b]) F hr.in1 hb I.env0.in1 hx I (.cons rfl (.cons rfl .nil)) q) (fun w s' z => ?_) fun _ _ x => x
  obtain ⟨z', H', I', rz, c, ec, qz⟩ := z
  subst ec
  cases (show w = Value.bool c from rz)
  exact ⟨c, rfl, .bl (!c), H', I', rfl, qz⟩
end
def top (i : Nat) : Stmt := PySem.Challenge.pw_widerkeys_k04_texts_of_kinds.main.body.getD i (.Pass ⟨0, 0, 0, 0⟩)
abbrev s__law_take : Stmt := (top 20)
abbrev N__law_take : List Str := ["_law_pot", "_law_upto", "_law_digit", "_law_prime", "_law_stirred"]
abbrev P__law_take : List Str := ["_law_pot", "_law_upto"]
theorem sc__law_take : FnScope N__law_take P__law_take (defScope s__law_take) := ⟨rfl, rfl, rfl, by decide +kernel, rfl, by decide +kernel, by decide +kernel⟩
abbrev s__law_of : Stmt := (top 21)
abbrev N__law_of : List Str := ["_law_pot", "_law_some"]
abbrev P__law_of : List Str := ["_law_pot", "_law_some"]
theorem sc__law_of : FnScope N__law_of P__law_of (defScope s__law_of) := ⟨rfl, rfl, rfl, by decide +kernel, rfl, by decide +kernel, by decide +kernel⟩
abbrev s__law_pot_of : Stmt := (top 19)
abbrev N__law_pot_of : List Str := ["_law_script", "_law_k", "_law_cell", "_law_own"]
abbrev P__law_pot_of : List Str := ["_law_script", "_law_k"]
theorem sc__law_pot_of : FnScope N__law_pot_of P__law_pot_of (defScope s__law_pot_of) := ⟨rfl, rfl, rfl, by decide +kernel, rfl, by decide +kernel, by decide +kernel⟩

/-- a pot from which n more numbers may be drawn -/
def Pot (H : Hp) (p : Addr) (n : Nat) : Prop := ∃ o s c : Int, H p = some (.lst [.int o, .int s, .int c]) ∧ 0 ≤ o ∧ 0 ≤ s ∧ s < 2305843009213693921 ∧ 0 ≤ c ∧ c + n ≤ 100000
/-- all that was tracked stands, but p -/
def Kp (p : Addr) (H H' : Hp) : Prop := ∀ b o, b ≠ p → H b = some o → H' b = some o
theorem Kp.refl {p : Addr} {H : Hp} : Kp p H H := fun _ _ _ h => h
theorem Kp.trans {p : Addr} {H H1 H2 : Hp} (a : Kp p H H1) (b : Kp p H1 H2) : Kp p H H2 := fun c o n h => b c o n (a c o n h)
theorem Kp.put {p : Addr} {H H1 : Hp} {o : HO} (a : Kp p H H1) : Kp p H (upd H1 p o) := fun c u n h => by
  rw [upd_ne n]
  exact a c u n h
theorem Kp.new {p q : Addr} {H H1 : Hp} {o : HO} (a : Kp p H H1) (hq : H1 q = none) : Kp p H (upd H1 q o) := fun c u n h => by
  have z := a c u n h
  rw [upd_ne (ne_of_none z hq)]
  exact z
theorem same_new {H : Hp} {p : Addr} {o : HO} (h : H p = none) : Same H (upd H p o) := fun b u e => (upd_ne (ne_of_none e h)).trans e
theorem if01 (b : Bool) : (0 : Int) ≤ if b = true then 1 else 0 := by cases b <;> decide
theorem Pot.le {H : Hp} {p : Addr} {m n : Nat} (h : Pot H p n) (l : m ≤ n) : Pot H p m := by
  obtain ⟨o, s, c, a, b, d, e, f, g⟩ := h
  exact ⟨o, s, c, a, b, d, e, f, by omega⟩
theorem Pot.new {H : Hp} {p q : Addr} {n : Nat} {o : HO} (h : Pot H p n) (hq : H q = none) : Pot (upd H q o) p n := by
  obtain ⟨x, s, c, a, b⟩ := h
  exact ⟨x, s, c, (upd_ne (ne_of_none a hq)).trans a, b⟩
theorem Pot.ne {H : Hp} {p q : Addr} {n : Nat} (h : Pot H p n) (hq : H q = none) : p ≠ q := by
  obtain ⟨x, s, c, a, b⟩ := h
  exact ne_of_none a hq
def spTake : Sp := fun vs H Q _ => ∃ (p : Addr) (n : Nat) (u : Int), vs = [.ref p, .int u] ∧ Pot H p (n + 1) ∧ 0 < u ∧ u < 2 ^ 200 ∧
  ∀ (r : Int) (H' : Hp), 0 ≤ r → r < u → Kp p H H' → Pot H' p n → Q (.int r) H'
def spOf : Sp := fun vs H Q _ => ∃ (p a : Addr) (n : Nat) (xs : List V), vs = [.ref p, .ref a] ∧ Pot H p (n + 1) ∧ a ≠ p ∧ H a = some (.lst xs) ∧ 0 < xs.length ∧ xs.length ≤ 1000 ∧
  ∀ (v : V) (H' : Hp), v ∈ xs → Kp p H H' → Pot H' p n → Q v H'
def spPotOf (K : PySem.W.Frag) : Sp := fun vs H Q _ => ∃ (a : Addr) (ns : List Int) (k : Int), vs = [.ref a, .int k] ∧ SqL K H a (ns.map V.int) ∧ ns.length ≤ 1000 ∧ 0 ≤ k ∧ k ≤ 2 ∧
  ∀ (p : Addr) (H' : Hp), H p = none → Same H H' → Pot H' p 100000 → Q (.ref p) H'
/-- a def that stands in the module under its name, with its promise -/
def Cal (P : Program) (w : World) (K : PySem.W.Frag) (mg : Str → Option Value) (base : Heap) (k : Nat) (x : Str) (ps : List Str) (sp : Sp) : Prop :=
  ∃ (f : Addr) (fd : FuncData), FnOk P w K mg base CX0 k f fd ps sp ∧ Binds K fd ps [] ∧ mg x = some (.ref f) ∧ PySem.W.keepIn K (.ref f) = true
def CalG (P : Program) (w : World) (K : PySem.W.Frag) (mg : Str → Option Value) (base : Heap) (k : Nat) (x : Str) (ps : List Str) (sp : Sp) : Prop :=
  ∃ (f : Addr) (fd : FuncData), FnG P w K mg base CX0 k f fd ps sp ∧ Binds K fd ps [] ∧ mg x = some (.ref f) ∧ PySem.W.keepIn K (.ref f) = true
theorem hu70 {k : Nat} {A : Around} (r : Room k A) : A.units + 70 < cLine := by
  have := r.un
  omega
structure Txt (mg : Str → Option Value) : Prop where
  n_int : mg "int" = none
  n_len : mg "len" = none
  n_abs : mg "abs" = none
  n_bool : mg "bool" = none
  n_tuple : mg "tuple" = none
  n_isinstance : mg "isinstance" = none
  n_range : mg "range" = none
  n_max : mg "max" = none
  n_min : mg "min" = none
  n_all : mg "all" = none
  n_repr : mg "repr" = none
section
variable {P : Program} {w : World} {K : PySem.W.Frag} {mg : Str → Option Value} {base : Heap}
theorem ok_take {f : Addr} {fd : FuncData} (F : Fun K "_law_take" "_law_take" s__law_take f fd) (T : Txt mg) : FnOk P w K mg base CX0 1 f fd P__law_take spTake := by
  refine F.ok sc__law_take (fun vs H Q E h => ?_) (fun cdv A outer s H vs Q E hr h => ?_)
  · obtain ⟨p, n, u, rfl, _⟩ := h
    rfl
  · obtain ⟨p, n, u, rfl, ⟨o, z, c, hp, o0, z0, z1, c0, c1⟩, u0, u1, k⟩ := h
    refine ⟨_, (pss_cons (ps_if (pt_cmpR op_gt (pe_ix ix_list (pv 0) pe_int (fun _ _ => rfl)) pe_int (nomark _)) (pss_cons (ps_set (i := 2) sc__law_take.nd rfl (Or.inl rfl) (pe_op op_mod (pe_callTy call_int1 (by rfl) T.n_int (by decide +kernel) (pa_cons (pe_ix ix_list (pv 0) pe_int (fun _ _ => rfl)) pa_nil)) (pv 1)))
      (pss_cons (ps_asg (pe_op op_fdivW (pe_ix ix_list (pv 0) pe_int (fun _ _ => rfl)) (pv 1)) (pg_sub (pv 0) pe_int set_list))
      (pss_one (ps_ret (pv 2))))) pss_nil)
      (pss_cons (ps_asg (pe_op op_add (pe_ix ix_list (pv 0) pe_int (fun _ _ => rfl)) pe_int) (pg_sub (pv 0) pe_int set_list))
      (pss_cons (ps_set (i := 3) sc__law_take.nd rfl (Or.inl rfl) (pe_ix ix_list (pe_lst (pa_cons pe_int (pa_cons pe_int (pa_cons pe_int (pa_cons pe_int (pa_cons pe_int pa_nil)))))) (pe_op op_mod (pe_callTy call_int1 (by rfl) T.n_int (by decide +kernel) (pa_cons (pe_ix ix_list (pv 0) pe_int (fun _ _ => rfl)) pa_nil)) pe_int) (fun _ _ => rfl)))
      (pss_cons (ps_set (i := 4) sc__law_take.nd rfl (Or.inl rfl) (pe_op op_mod (pe_callTy call_int1 (by rfl) T.n_int (by decide +kernel) (pa_cons (pe_op op_pow (pe_op op_add (pe_op op_add (pe_ix ix_list (pv 0) pe_int (fun _ _ => rfl)) (pe_op op_mul (pe_op op_mul pe_int (pe_ix ix_list (pv 0) pe_int (fun _ _ => rfl))) (pe_ix ix_list (pv 0) pe_int (fun _ _ => rfl)))) pe_int) pe_int) pa_nil)) (pv 3)))
      (pss_one (ps_ret (pe_op op_mod (pe_callTy call_int1 (by rfl) T.n_int (by decide +kernel) (pa_cons (pe_op op_fdivW (pe_op op_mul (pv 4) (pe_op op_add (pe_op op_mod (pe_callTy call_int1 (by rfl) T.n_int (by decide +kernel) (pa_cons (pv 4) pa_nil)) pe_int) (pe_op op_mul pe_int (pe_ix ix_list (pv 0) pe_int (fun _ _ => rfl))))) pe_int) pa_nil)) (pv 1)))))))), ?_⟩
    fail "z go"
    refine rd_ite (fun h => ?_) (fun h => ?_)
    · fail "z go"
      exact k _ _ (Int.emod_nonneg _ (by omega)) (Int.emod_lt_of_pos _ u0) Kp.refl.put ⟨_, _, _, upd_same, Int.ediv_nonneg o0 (by omega), z0, z1, c0, by omega⟩
    · fail "z go"
      intro q hq
      have npq : p ≠ q := ne_of_none upd_same hq
      fail "z go"
      refine rd_ixLr upd_same (Int.emod_nonneg _ (by decide)) (Int.emod_lt_of_pos _ (by decide)) fun m hm => ?_
      obtain ⟨m, rfl, m0, m1⟩ : ∃ i : Int, m = .int i ∧ 2147483563 ≤ i ∧ i ≤ 2147483647 := by
        simp only [List.mem_cons, List.not_mem_nil, or_false] at hm
        rcases hm with rfl | rfl | rfl | rfl | rfl <;> exact ⟨_, rfl, by decide, by decide⟩
      have sq0 : 0 ≤ (c + 1) * (c + 1) := Int.mul_nonneg (by omega) (by omega)
      have sq1 : (c + 1) * (c + 1) ≤ 100000 * 100000 := Int.mul_le_mul (by omega) (by omega) (by omega) (by decide)
      have sq2 : 90001 * (c + 1) * (c + 1) = 90001 * ((c + 1) * (c + 1)) := Int.mul_assoc _ _ _
      fail "z go"
      refine k _ _ (Int.emod_nonneg _ (by omega)) (Int.emod_lt_of_pos _ u0) (Kp.refl.put.new hq) ⟨_, _, _, (upd_ne npq).trans upd_same, o0, z0, z1, by omega, by omega⟩
theorem ok_of {f : Addr} {fd : FuncData} (F : Fun K "_law_of" "_law_of" s__law_of f fd) (T : Txt mg) (c_take : Cal P w K mg base 1 "_law_take" P__law_take spTake) :
    FnOk P w K mg base CX0 2 f fd P__law_of spOf := by
  obtain ⟨f_take, fd_take, G__law_take, b__law_take, g__law_take, k__law_take⟩ := c_take
  refine F.ok sc__law_of (fun vs H Q E h => ?_) (fun cdv A outer s H vs Q E hr h => ?_)
  · obtain ⟨p, a, n, xs, rfl, _⟩ := h
    rfl
  · obtain ⟨p, a, n, xs, rfl, hp, nap, ha, l0, l1, k⟩ := h
    refine ⟨_, (pss_one (ps_ret (pe_ix ix_list (pv 1) (pe_call G__law_take (hr.mono (by decide)) rfl g__law_take k__law_take b__law_take .nil pass0 (pa_cons (pv 0) (pa_cons (pe_callB call_len_seq (by rfl) T.n_len (by decide +kernel) (pa_cons (pv 1) pa_nil)) pa_nil))) (fun _ _ => rfl)))), ?_⟩
    fail "z go"
    refine ⟨p, n, _, rfl, hp, by omega, by omega, fun r H' r0 r1 kp pt => ?_⟩
    exact rd_ixLr (kp a _ nap ha) r0 r1 fun v hv => k v H' hv kp pt
theorem ok_pot_of {f : Addr} {fd : FuncData} (F : Fun K "_law_pot_of" "_law_pot_of" s__law_pot_of f fd) (T : Txt mg) : FnOk P w K mg base CX0 1 f fd P__law_pot_of (spPotOf K) := by
  refine F.ok sc__law_pot_of (fun vs H Q E h => ?_) (fun cdv A outer s H vs Q E hr h => ?_)
  · obtain ⟨a, ns, x, rfl, _⟩ := h
    rfl
  · obtain ⟨a, ns, x, rfl, hS, few, x0, x1, k⟩ := h
    refine ⟨_, (pss_cons (ps_set (i := 2) sc__law_pot_of.nd rfl (Or.inl rfl) (pe_ifExp (pt_cmpR op_lt (pv 1) (pe_callB call_len_seq (by rfl) T.n_len (by decide +kernel) (pa_cons (pv 0) pa_nil)) (nomark _)) (pe_ix ix_list (pv 0) (pv 1) (fun _ _ => rfl)) (pe_op op_add (pe_op op_mul pe_int (pv 1)) pe_int)))
      (pss_cons (ps_set (i := 3) sc__law_pot_of.nd rfl (Or.inl rfl) (pe_op op_mul (pe_op op_mod (pe_callTy call_int1 (by rfl) T.n_int (by decide +kernel) (pa_cons (pe_callB call_abs (by rfl) T.n_abs (by decide +kernel) (pa_cons (pv 2) pa_nil)) pa_nil)) (pe_op op_powZ (pe_op op_pow pe_int pe_int) pe_int)) (pe_callTy call_int1 (by rfl) T.n_int (by decide +kernel) (pa_cons (pe_cmpR op_ge (pe_callB call_abs (by rfl) T.n_abs (by decide +kernel) (pa_cons (pv 2) pa_nil)) (pe_op op_pow pe_int pe_int) (nomark _)) pa_nil))))
      (pss_one (ps_ret (pe_lst (pa_cons (pv 3) (pa_cons (pe_op op_mod (pe_callTy call_int1 (by rfl) T.n_int (by decide +kernel) (pa_cons (pe_op op_add (pe_op op_add (pe_op op_mul (pe_op op_mod (pe_callTy call_int1 (by rfl) T.n_int (by decide +kernel) (pa_cons (pv 2) pa_nil)) pe_int) pe_int) (pe_op op_mul (pe_op op_mul pe_int (pv 1)) (pv 1))) pe_int) pa_nil)) pe_int) (pa_cons pe_int pa_nil)))))))), ?_⟩
    fail "z go"
    refine rd_lenLs hS ?_
    fail "z go"
    refine rd_ite (fun h => ?_) (fun h => ?_)
    · fail "z go"
      refine rd_ixLsr hS x0 h fun v hv => ?_
      obtain ⟨c, _, rfl⟩ := List.mem_map.mp hv
      fail "z go"
      refine rd_I (show CPowZ _ _ from ⟨by decide, by decide +kernel⟩) ?_
      fail "z go"
      refine rd_I (by decide +kernel) ?_
      fail "z go"
      intro p hp
      refine k p _ hp (same_new hp) ⟨_, _, _, upd_same, Int.mul_nonneg (Int.emod_nonneg _ (by decide +kernel)) (if01 _), Int.emod_nonneg _ (by decide), Int.emod_lt_of_pos _ (by decide), by decide, by decide⟩
    · fail "z go"
      refine rd_I (show CPowZ _ _ from ⟨by decide, by decide +kernel⟩) ?_
      fail "z go"
      refine rd_I (by decide +kernel) ?_
      fail "z go"
      intro p hp
      refine k p _ hp (same_new hp) ⟨_, _, _, upd_same, Int.mul_nonneg (Int.emod_nonneg _ (by decide +kernel)) (if01 _), Int.emod_nonneg _ (by decide), Int.emod_lt_of_pos _ (by decide), by decide, by decide⟩
/-! ### integers and kinds -/
abbrev s_is_integer : Stmt := (top 8)
abbrev N_is_integer : List Str := ["value"]
abbrev P_is_integer : List Str := ["value"]
theorem sc_is_integer : FnScope N_is_integer P_is_integer (defScope s_is_integer) := ⟨rfl, rfl, rfl, by decide +kernel, rfl, by decide +kernel, by decide +kernel⟩
abbrev s_Kind___init__ : Stmt := (inClass (top 16) 0)
abbrev N_Kind___init__ : List Str := ["self", "low", "high"]
abbrev P_Kind___init__ : List Str := ["self", "low", "high"]
theorem sc_Kind___init__ : FnScope N_Kind___init__ P_Kind___init__ (defScope s_Kind___init__) := ⟨rfl, rfl, rfl, by decide +kernel, rfl, by decide +kernel, by decide +kernel⟩

/-- a plain value: none, a bool, an int, a text, a list, a tuple, a dict -/
inductive Plain (H : Hp) : V → Prop where
  | non : Plain H .non
  | bl (b : Bool) : Plain H (.bl b)
  | int (i : Int) : Plain H (.int i)
  | str (x : Str) : Plain H (.str x)
  | lst {a : Addr} {xs : List V} (e : H a = some (.lst xs)) : Plain H (.ref a)
  | tup {a : Addr} {xs : List V} (e : H a = some (.tup xs)) : Plain H (.ref a)
  | dK {a : Addr} {kvs : List (Key × V)} (e : H a = some (.dK kvs)) : Plain H (.ref a)
def isI : V → Bool
  | .int _ => true
  | _ => false
/-- isinstance of a plain value and a built-in class -/
theorem rd_isi {K : PySem.W.Frag} {H : Hp} {Q : VK} {v : V} {t n : String} {b : Bool} (ty : TyX K H v (.type t)) (e : kitB t n = some b) (k : Q (.bl b) H) : rIsi K [v, .ty n] H Q :=
  ⟨v, .ty n, _, _, b, rfl, .ty n, ty, kit_ty e, k⟩
theorem rd_isiP {K : PySem.W.Frag} {H : Hp} {Q : VK} {v : V} (p : Plain H v) (k1 : ∀ b : Bool, (b = true → isI v = true ∨ ∃ c, v = .bl c) → (isI v = true → b = true) → (∀ c, v = .bl c → b = true) → Q (.bl b) H) : rIsi K [v, .ty "int"] H Q := by
  cases p with
  | non => exact rd_isi (.base .non) (by decide +kernel) (k1 false (fun z => nomatch z) (fun z => nomatch z) fun c z => nomatch z)
  | bl b => exact rd_isi (.base (.bl b)) (by decide +kernel) (k1 true (fun _ => .inr ⟨b, rfl⟩) (fun _ => rfl) fun _ _ => rfl)
  | int i => exact rd_isi (.base (.int i)) (by decide +kernel) (k1 true (fun _ => .inl rfl) (fun _ => rfl) fun _ _ => rfl)
  | str x => exact rd_isi (.base (.str x)) (by decide +kernel) (k1 false (fun z => nomatch z) (fun z => nomatch z) fun c z => nomatch z)
  | lst e => exact rd_isi (.base (.lst e)) (by decide +kernel) (k1 false (fun z => nomatch z) (fun z => nomatch z) fun c z => nomatch z)
  | tup e => exact rd_isi (.base (.tup e)) (by decide +kernel) (k1 false (fun z => nomatch z) (fun z => nomatch z) fun c z => nomatch z)
  | dK e => exact rd_isi (.base (.dK e)) (by decide +kernel) (k1 false (fun z => nomatch z) (fun z => nomatch z) fun c z => nomatch z)
theorem rd_isiB {K : PySem.W.Frag} {H : Hp} {Q : VK} {v : V} (p : Plain H v) (k1 : ∀ b : Bool, (b = true ↔ ∃ c, v = .bl c) → Q (.bl b) H) : rIsi K [v, .ty "bool"] H Q := by
  cases p with
  | non => exact rd_isi (.base .non) (by decide +kernel) (k1 false ⟨fun z => Bool.noConfusion z, fun ⟨c, z⟩ => V.noConfusion z⟩)
  | bl b => exact rd_isi (.base (.bl b)) (by decide +kernel) (k1 true ⟨fun _ => ⟨b, rfl⟩, fun _ => rfl⟩)
  | int i => exact rd_isi (.base (.int i)) (by decide +kernel) (k1 false ⟨fun z => Bool.noConfusion z, fun ⟨c, z⟩ => V.noConfusion z⟩)
  | str x => exact rd_isi (.base (.str x)) (by decide +kernel) (k1 false ⟨fun z => Bool.noConfusion z, fun ⟨c, z⟩ => V.noConfusion z⟩)
  | lst e => exact rd_isi (.base (.lst e)) (by decide +kernel) (k1 false ⟨fun z => Bool.noConfusion z, fun ⟨c, z⟩ => V.noConfusion z⟩)
  | tup e => exact rd_isi (.base (.tup e)) (by decide +kernel) (k1 false ⟨fun z => Bool.noConfusion z, fun ⟨c, z⟩ => V.noConfusion z⟩)
  | dK e => exact rd_isi (.base (.dK e)) (by decide +kernel) (k1 false ⟨fun z => Bool.noConfusion z, fun ⟨c, z⟩ => V.noConfusion z⟩)
def spIsInt : Sp := fun vs H Q _ => ∃ v, vs = [v] ∧ Plain H v ∧ Q (.bl (isI v)) H
theorem ok_is_integer {f : Addr} {fd : FuncData} (F : Fun K "is_integer" "is_integer" s_is_integer f fd) (T : Txt mg) : FnOk P w K mg base CX0 1 f fd P_is_integer spIsInt := by
  refine F.ok sc_is_integer (fun vs H Q E h => ?_) (fun cdv A outer s H vs Q E hr h => ?_)
  · obtain ⟨v, rfl, _⟩ := h
    rfl
  · obtain ⟨v, rfl, p, k⟩ := h
    refine ⟨_, (pss_one (ps_ret (pe_and (pe_callB call_isi (by rfl) T.n_isinstance (by decide +kernel) (pa_cons (pv 0) (pa_cons (pe_bltn (v := .ty "int") (by rfl) T.n_int (by decide +kernel) rfl) pa_nil))) (pe_one (pe_not (pe_callB call_isi (by rfl) T.n_isinstance (by decide +kernel) (pa_cons (pv 0) (pa_cons (pe_bltn (v := .ty "bool") (by rfl) T.n_bool (by decide +kernel) rfl) pa_nil)))))))), ?_⟩
    fail "z go"
    refine rd_isiP p fun b h1 h2 h3 => ?_
    fail "z go"
    refine rd_iteB (fun hb => ?_) (fun hb => ?_)
    · fail "z go"
      refine rd_isiB p fun c hc => ?_
      fail "z go"
      show Q (.bl (!c)) H
      have e : (!c) = isI v := by
        rcases h1 hb with z | z
        · rw [z]
          cases c with
          | false => rfl
          | true =>
            obtain ⟨d, rfl⟩ := hc.mp rfl
            cases z
        · rw [hc.mpr z]
          obtain ⟨d, rfl⟩ := z
          rfl
      rw [e]
      exact k
    · show Q (.bl false) H
      have e : isI v = false := by
        cases q : isI v with
        | false => rfl
        | true =>
          rw [h2 q] at hb
          cases hb
      rw [← e]
      exact k
/-- the fields of a kind -/
def kf (lo hi : Int) : List (Str × V) := putF "size" (.int (hi - lo + 1)) (putF "high" (.int hi) (putF "low" (.int lo) []))
theorem kf_low (lo hi : Int) : (kf lo hi).lookup ("low" : Str) = some (.int lo) := by
  unfold kf
  rw [lookup_putF, if_neg (by decide +kernel), lookup_putF, if_neg (by decide +kernel), lookup_putF, if_pos rfl]
theorem kf_high (lo hi : Int) : (kf lo hi).lookup ("high" : Str) = some (.int hi) := by
  unfold kf
  rw [lookup_putF, if_neg (by decide +kernel), lookup_putF, if_pos rfl]
theorem kf_size (lo hi : Int) : (kf lo hi).lookup ("size" : Str) = some (.int (hi - lo + 1)) := by
  unfold kf
  rw [lookup_putF, if_pos rfl]
structure KindT (K : PySem.W.Frag) (C : Addr) : Prop where
  cl : Cls K C
  n_low : NoAttr K C "low"
  n_high : NoAttr K C "high"
  n_size : NoAttr K C "size"
def IsKind (C : Addr) (H : Hp) (a : Addr) (lo hi : Int) : Prop := ∃ dx, H a = some (.ins C dx (kf lo hi))
theorem IsKind.same {C a : Addr} {H H' : Hp} {lo hi : Int} (h : IsKind C H a lo hi) (s : Same H H') : IsKind C H' a lo hi := by
  obtain ⟨dx, e⟩ := h
  exact ⟨dx, s _ _ e⟩
end
/-! ### small data, its text -/
structure Sm (k n : Nat) (d : PyData) : Prop where
  sh : d.showable = true
  nd : d.hasDict = false
  cl : d.canLay0 = true
  ls : d.leavesShort 250 = true
  wt : d.weight ≤ n
  dp : d.depth ≤ k
structure SmAll (k n : Nat) (ds : List PyData) : Prop where
  sh : PyData.showableAll ds = true
  nd : PyData.hasDictAll ds = false
  cl : PyData.canLayAll0 ds = true
  ls : PyData.leavesShortAll 250 ds = true
  wt : PyData.weightAll ds ≤ n
  dp : PyData.depthAll ds ≤ k
theorem sm_none {k : Nat} : Sm k 0 .none := ⟨by simp [PyData.showable], by simp [PyData.hasDict], by simp [PyData.canLay0], by simp [PyData.leavesShort], by simp [PyData.weight], by simp [PyData.depth]⟩
theorem sm_bool {k : Nat} (b : Bool) : Sm k 0 (.bool b) := ⟨by simp [PyData.showable], by simp [PyData.hasDict], by simp [PyData.canLay0], by simp [PyData.leavesShort], by simp [PyData.weight], by simp [PyData.depth]⟩
theorem log_of {i : Int} (h1 : -(2 ^ 200) < i) (h2 : i < 2 ^ 200) : i.natAbs.log2 < 200 := PySem.Flt.log2_lt_of (by decide) (by omega)
theorem sm_int {k : Nat} {i : Int} (h1 : -(2 ^ 200) < i) (h2 : i < 2 ^ 200) : Sm k 201 (.int i) := by
  have l := log_of h1 h2
  have t := int_text_length_le (k := 200) (by decide) l
  refine ⟨by simp only [PyData.showable, decide_eq_true_eq]; omega, by simp [PyData.hasDict], by simp [PyData.canLay0], ?_, ?_, by simp [PyData.depth]⟩
  · simp only [PyData.leavesShort, decide_eq_true_eq]
    show (Str.ofString (toString i)).length ≤ 250
    rw [PySem.ofString_length]
    omega
  · simp only [PyData.weight]
    split <;> omega
theorem sm_nil {k : Nat} : SmAll k 0 [] := ⟨by simp [PyData.showableAll], by simp [PyData.hasDictAll], by simp [PyData.canLayAll0], by simp [PyData.leavesShortAll], by simp [PyData.weightAll], by simp [PyData.depthAll]⟩
theorem sm_cons {k a b : Nat} {d : PyData} {ds : List PyData} (h : Sm k a d) (t : SmAll k b ds) : SmAll k (a + 1 + b) (d :: ds) := by
  refine ⟨by simp [PyData.showableAll, h.sh, t.sh], by simp [PyData.hasDictAll, h.nd, t.nd], by simp [PyData.canLayAll0, h.cl, t.cl], by simp [PyData.leavesShortAll, h.ls, t.ls], ?_, ?_⟩
  · have := h.wt
    have := t.wt
    simp only [PyData.weightAll]
    omega
  · have := h.dp
    have := t.dp
    simp only [PyData.depthAll]
    omega
theorem sm_list {k n : Nat} {ds : List PyData} (t : SmAll k n ds) : Sm (k + 1) n (.list ds) :=
  ⟨by simp [PyData.showable, t.sh], by simp [PyData.hasDict, t.nd], by simp [PyData.canLay0, t.cl], by simp [PyData.leavesShort, t.ls], by simp [PyData.weight, t.wt], by have := t.dp; simp only [PyData.depth]; omega⟩
theorem sm_tup {k n : Nat} {ds : List PyData} (t : SmAll k n ds) : Sm (k + 1) n (.tuple ds) :=
  ⟨by simp [PyData.showable, t.sh], by simp [PyData.hasDict, t.nd], by simp [PyData.canLay0, t.cl], by simp [PyData.leavesShort, t.ls], by simp [PyData.weight, t.wt], by have := t.dp; simp only [PyData.depth]; omega⟩
theorem Sm.text {k n : Nat} {d : PyData} (h : Sm k n d) (hn : n ≤ 50000) : d.shown.length ≤ sizeLine := by
  have e := PyData.shown_le 250 (by decide) d h.ls
  have w := h.wt
  rw [sizeLine_eq]
  omega
theorem Sm.shaped {k n : Nat} {d : PyData} (h : Sm k n d) (hk : k ≤ 60) : SeqAt.shaped d = true := by
  have := h.dp
  unfold SeqAt.shaped
  rw [h.cl, Bool.true_and]
  exact decide_eq_true (by omega)
theorem rd_repr {K : PySem.W.Frag} {H : Hp} {Q : VK} {v : V} {d : PyData} {k n : Nat} (h : Dp K H v d) (s : Sm k n d) (hk : k ≤ 60) (hn : n ≤ 50000) (q : Q (.str d.shown) H) : rReprD K [v] H Q := by
  refine ⟨v, d, rfl, h, s.sh, s.nd, by have := s.dp; omega, s.text hn, fun i e => ?_, q⟩
  subst e
  cases h
  have z := s.sh
  simp only [PyData.showable, decide_eq_true_eq] at z
  exact z
theorem rd_neD {K : PySem.W.Frag} {H : Hp} {Q : VK} {x y : V} {d e : PyData} {k n k' n' : Nat} (h : Dp K H x d) (h' : Dp K H y e) (s : Sm k n d) (s' : Sm k' n' e) (hk : k ≤ 60) (hk' : k' ≤ 60) (q : Q (.bl (!PyData.eqv d e)) H) : rNeD K x y H Q :=
  ⟨d, e, h, h', s.shaped hk, s'.shaped hk', q⟩
theorem rd_eqD {K : PySem.W.Frag} {H : Hp} {Q : VK} {x y : V} {d e : PyData} {k n k' n' : Nat} (h : Dp K H x d) (h' : Dp K H y e) (s : Sm k n d) (s' : Sm k' n' e) (hk : k ≤ 60) (hk' : k' ≤ 60) (q : Q (.bl (PyData.eqv d e)) H) : rEqD K x y H Q :=
  ⟨d, e, h, h', s.shaped hk, s'.shaped hk', q⟩
theorem Sm.up {k n k' n' : Nat} {d : PyData} (h : Sm k n d) (hk : k ≤ k') (hn : n ≤ n') : Sm k' n' d := ⟨h.sh, h.nd, h.cl, h.ls, Nat.le_trans h.wt hn, Nat.le_trans h.dp hk⟩
/-! ### a caught error that is kept behind its suite -/
section
variable {X : Cx} {pins : List (Addr × Obj)} {σ : L2.St} {H : Hp} {s : Shared}
/-- what is kept behind: the context with the error pinned -/
abbrev kept (X : Cx) (a : Addr) (oe : Obj) (pn : List (Addr × Obj)) : Cx := X.tr ((a, oe) :: pn) X.xe
theorem un_kept {a : Addr} {oe : Obj} {pn' : List (Addr × Obj)} (ok : X.Ok) (J : Inv (kept X a oe (X.pn ++ pins)) pn' σ H s) : Inv X pins σ H s where
  ok := ok
  os := J.os
  bare := J.bare
  base := J.base
  loc := J.loc
  cell := J.cell
  free := J.free
  freeC := J.freeC
  pin := fun q hq => J.pin q (List.mem_append.mpr (.inl (List.mem_cons.mpr (.inr hq))))
  hok := J.hok
  len := J.len
theorem kept_of {a : Addr} {oe : Obj} {pn pn' : List (Addr × Obj)} (ok : X.Ok) (J : Inv (X.suite a ((a, oe) :: pn)) pn' σ H s) : Inv (kept X a oe pn) pn' σ H s where
  ok := ok.toTry _ _
  os := J.os
  bare := J.bare
  base := J.base
  loc := J.loc
  cell := J.cell
  free := J.free
  freeC := J.freeC
  pin := J.pin
  hok := J.hok
  len := J.len
theorem sp_kept {a : Addr} {oe : Obj} {D : Ends} {fl : Flow} (ok : X.Ok) (h : SP (kept X a oe (X.pn ++ pins)) [] D fl s) : SP X pins D fl s := by
  match fl, h with
  | .next, ⟨σ', H', J, q⟩ => exact ⟨σ', H', un_kept ok J, q⟩
  | .brk, ⟨σ', H', J, q⟩ => exact ⟨σ', H', un_kept ok J, q⟩
  | .cont, ⟨σ', H', J, q⟩ => exact ⟨σ', H', un_kept ok J, q⟩
  | .ret _, ⟨v, σ', H', J, r, q⟩ => exact ⟨v, σ', H', un_kept ok J, r, q⟩
end
/-- what a try that keeps its error wishes of one that its body raises -/
def wKeep (K : PySem.W.Frag) (c : Value) (i : Nat) (ts tk : Addr → Value → Option Addr → TS) (D : Ends) : WX := fun cls d σ H =>
  PySem.W.exmOne K cls c = some true ∧ ∀ a, H a = none → ts a cls d { nx := fun σ' H' => tk a cls d D (σ'.set i none) H', rt := fun _ _ => False } (σ.set i (some (.ref a))) H
section
variable {X : Cx} {x n : Str} {c : Value} {i : Nat} {body suite rest : List Stmt} {b₀ : Stmt} {np pos pos' : Pos} {tb : WX → TS} {ts tk : Addr → Value → Option Addr → TS} {t0 : TS}
/-- try: body / except x as n: suite, and what stands behind, read in the light of the error that was caught -/
theorem pss_keep (hs : X.stack = X.env :: X.outer) (hf : X.env.frame = some X.env.locals) (hN : X.N.Nodup) (hi : X.N[i]? = some n) (hln : X.env.kindOf n = some .local) (hc : Names X x c)
    (hb : ∀ (W : WX) (pn : List (Addr × Obj)) (xe : Value → Shared → Prop), Takes (X.tr pn xe) W → PSs (X.tr pn xe) body (tb W))
    (hsu : ∀ (a : Addr) (oe : Obj) (cls : Value) (d : Option Addr) (pn : List (Addr × Obj)), Zc cls d oe → (∃ vs, oe.data = .fields vs) → PSs (X.suite a ((a, oe) :: pn)) (b₀ :: suite) (ts a cls d))
    (h0 : PSs X rest t0)
    (hk : ∀ (a : Addr) (oe : Obj) (cls : Value) (d : Option Addr) (pn : List (Addr × Obj)), Zc cls d oe → (∃ vs, oe.data = .fields vs) → PSs (kept X a oe pn) rest (tk a cls d)) :
    PSs X (.Try body [.ExceptHandler (some (.Name x np)) (some n) (b₀ :: suite) pos'] [] [] pos :: rest) (fun D σ H => tb (wKeep X.K c i ts tk D) { D with nx := t0 D } σ H) := by
  constructor
  intro pins s σ H D I h
  have ok := I.ok
  -- either as behind any statement, or with the error kept
  refine wpAny_execs_cons (thn (Q := fun fl s1 => SP X pins { D with nx := t0 D } fl s1 ∨ (fl = .next ∧ ∃ (a : Addr) (oe : Obj) (cls : Value) (d : Option Addr) (σ' : L2.St) (H' : Hp), Zc cls d oe ∧ (∃ vs, oe.data = .fields vs) ∧
    Inv (kept X a oe (X.pn ++ pins)) [] σ' H' s1 ∧ tk a cls d D σ' H')) ?_ fun fl s1 z => ?_)
  · have hfr : X.A.frames = some (X.env :: X.outer) := ok.frames.trans (congrArg some hs)
    refine wpAny_Try_except ?_
    refine wpAny_mono ((hb (wKeep X.K c i ts tk D) (X.pn ++ pins) _ (fun u s' xx => ?_)).run [] s σ H _ (I.toTry _) h) (fun fl s1 z => ?_) (fun e s1 he => he)
    · -- what the body raises is caught here
      obtain ⟨a, B, sI, pins', σ', H', cls, d, eu, J', nb, up, sky, na, os, ag, hyes, hgo⟩ := xx
      subst eu
      have J : Inv X pins σ' H' sI := J'.ofTry ok
      have air : Sky B (X.env :: X.outer) a (Zc cls d) X.env.locals s'.heap := hs ▸ sky
      refine Sky.land Zc.steady hfr hf air fun h1 fly1 up1 => ?_
      have J1 : Inv X pins σ' H' { s' with heap := h1 } := J.landed nb fly1.1 (up.trans up1) os ag
      obtain ⟨o1, v1, at1, z1, f1⟩ := fly1.there
      have off : a ∉ frs (X.env :: X.outer) := fun hm => by
        obtain ⟨_, o', e', no⟩ := fly1.2.2.1.mem hm
        rw [at1] at e'
        cases e'
        exact no _ f1
      have offL : a ≠ X.env.locals := fun z => off (List.mem_filterMap.mpr ⟨X.env, List.mem_cons_self, hf.trans (congrArg some z.symm)⟩)
      have offF : a ∉ X.fs := fun hm => by
        obtain ⟨e, m, q⟩ := List.mem_filterMap.mp hm
        exact off (List.mem_filterMap.mpr ⟨e, List.mem_cons_of_mem _ m, q⟩)
      have S1 := J1.suite at1 f1 na offL offF
      have cl : PySem.W.Looks (model X.prog X.w) h1 (typeOf (.ref a)) cls := fun A Q E s k q => wpAny_typeOf_ref (k _ _ at1) (z1.1.symm ▸ q)
      have fits := PySem.W.exm_one (M := model X.prog X.w) J1.kIn cl hyes
      have named : ∀ {Q : Value → Shared → Prop} {E : Value → Shared → Prop}, Q c { s' with heap := h1 } → wpAny (model X.prog X.w) (X.A.mark (some (.ref a))) (eval (.Name x np) X.env) Q E { s' with heap := h1 } := fun {Q E} q => by
        obtain ⟨g, nodb, m⟩ := hc
        rcases m with m | ⟨m, bt, nn⟩
        · exact ld_glob (X := X.suite a ((a, o1) :: (X.pn ++ pins))) S1 g m q nodb
        · exact ld_blt (X := X.suite a ((a, o1) :: (X.pn ++ pins))) S1 g m bt q nn nodb
      refine wpAny_handleBy_cons (codeAny_handlers_test (named (fits.here ?_))) (fun q => nomatch q)
      refine codeAny_handlers_suite_as (HandSPX.lands_againZ fly1 fun h2 fly2 up2 => ?_)
      obtain ⟨o2, v2, at2, z2, f2⟩ := fly2.there
      have S2 := (J.landed (s' := { s' with heap := h2 }) nb fly2.1 ((up.trans up1).trans up2) os ag).suite at2 f2 na offL offF
      refine store_ok (X := X.suite a ((a, o2) :: (X.pn ++ pins))) (v := .ref a) S2 hN hi (.inl hln) rfl (fun s3 S3 => ?_) (.inr hln)
      refine wpAny_mono ((hsu a o2 cls d (X.pn ++ pins) z2 ⟨_, f2⟩).run [] s3 _ H' _ S3 (hgo a na)) (fun fl s4 z => ?_) (fun _ _ z => False.elim z)
      match fl, z with
      | .next, ⟨σ4, H4, S4, q4⟩ => exact gone_ok (X := kept X a o2 (X.pn ++ pins)) (kept_of ok S4) hN hi hln fun s5 J5 => .inr ⟨rfl, a, o2, cls, d, _, _, z2, ⟨_, f2⟩, J5, q4⟩
      | .brk, ⟨_, _, _, q4⟩ => exact False.elim q4
      | .cont, ⟨_, _, _, q4⟩ => exact False.elim q4
      | .ret _, ⟨_, _, _, _, _, q4⟩ => exact False.elim q4
    · match fl, z with
      | .next, ⟨σ', H', J', q⟩ => exact wpAny_execs_nil (.inl ⟨σ', H', J'.ofTry ok, q⟩)
      | .brk, ⟨σ', H', J', q⟩ => exact .inl ⟨σ', H', J'.ofTry ok, q⟩
      | .cont, ⟨σ', H', J', q⟩ => exact .inl ⟨σ', H', J'.ofTry ok, q⟩
      | .ret _, ⟨v, σ', H', J', r, q⟩ => exact .inl ⟨v, σ', H', J'.ofTry ok, r, q⟩
  · rcases z with z | ⟨rfl, a, oe, cls, d, σ', H', zc, hd, J, q⟩
    · match fl, z with
      | .next, ⟨σ', H', J, q⟩ => exact h0.run pins s1 σ' H' D J q
      | .brk, z => exact z
      | .cont, z => exact z
      | .ret _, z => exact z
    · exact thn ((hk a oe cls d (X.pn ++ pins) zc hd).run [] s1 σ' H' D J q) fun fl s2 z => sp_kept ok z
end
/-- what an own exception class must have, so that isinstance and fields are read of its objects -/
structure ExcK (K : PySem.W.Frag) (C : Addr) : Prop where
  cl : (PySem.W.clsIn K C).isSome = true
  ga : PySem.W.findIn K (.ref C) "__getattribute__" = some (some (.builtin "BaseException.__getattribute__"))
  gg : PySem.W.findIn K (.ref C) "__getattr__" = some none
  su : PySem.W.subIn K (.ref C) (.type "BaseException") = some true
  ha : PySem.W.findIn K (.ref C) "__class__" = some (some (.builtin "object.__class__"))
  hn : PySem.W.specialIn K (.builtin "object.__class__") "__get__" = some (some (.builtin "getset_descriptor.__get__"))
  ht : PySem.W.takesIn K (.builtin "object.__class__") = some true
  hm : PySem.W.mroIn K C (.type "object") = some true
  hd : PySem.W.hasDictIn K C = true
section
variable {X : Cx} {a : Addr} {oe : Obj} {cls : Value} {d : Option Addr}
theorem held_at {pins : List (Addr × Obj)} {σ : L2.St} {H : Hp} {s : Shared} {C dd : Addr} {fs : List (Str × V)} (hp : (a, oe) ∈ X.pn) (hz : Zc cls d oe) (hf : ∃ vs, oe.data = .fields vs) (I : Inv X pins σ H s) (ec : cls = .ref C) (ed : d = some dd) (ea : H dd = some (.xd fs)) :
    ∃ (od : Obj) (mA : Str → Option Value), PySem.W.InstAt s.heap a oe C (some od) ∧ (∀ y, PySem.W.lookIn y od = some (mA y)) ∧ ∀ y, RelO (fs.lookup y) (mA y) := by
  subst ec
  subst ed
  obtain ⟨ha, _⟩ := I.pin (a, oe) (List.mem_append.mpr (.inl hp))
  obtain ⟨vs, hd⟩ := hf
  have z : ObjOk X.prog X.w H s.heap dd (.xd fs) := I.hok dd _ ea
  obtain ⟨mA, hns, hr⟩ := z
  obtain ⟨od, ho, hl⟩ := lookIn_ns hns
  refine ⟨od, mA, ⟨ha, hz.1, ?_, ?_⟩, hl, hr⟩
  · unfold PySem.W.notCls
    rw [hd]
  · rw [hz.2]
    exact ho
/-- isinstance(e, c), e the error that is kept -/
def rIsP (K : PySem.W.Frag) (a : Addr) (cls : Value) (d : Option Addr) : List V → Hp → VK → Prop := fun xs H Q =>
  ∃ (C dd : Addr) (fs : List (Str × V)) (c : V) (cv : Value) (b : Bool), xs = [.ref a, c] ∧ cls = .ref C ∧ ExcK K C ∧ d = some dd ∧ H dd = some (.xd fs) ∧ (∀ u, RelV c u → u = cv) ∧ PySem.W.kitOne K (.ref C) cv = some b ∧ Q (.bl b) H
theorem call_isP (hp : (a, oe) ∈ X.pn) (hz : Zc cls d oe) (hf : ∃ vs, oe.data = .fields vs) : CallR X (.builtin "isinstance") (rIsP X.K a cls d) := by
  intro pins s σ H xs us Q I r h
  obtain ⟨C, dd, fs, c, cv, b, rfl, ec, T, ed, ea, hcv, e, q⟩ := h
  cases r with
  | cons rx rr =>
    cases rr with
    | cons rt rr =>
      cases rr
      cases rx
      have ev := hcv _ rt
      subst ev
      obtain ⟨od, mA, J, _⟩ := held_at hp hz hf I ec ed ea
      exact PySem.W.kia_one (PySem.W.kitx_exc T.cl T.ga T.gg T.su T.ha T.hn T.ht T.hm) I.kIn J e (fun z => nomatch z) fun tk => ⟨.bl b, H, I.kept (t' := tk) fun _ _ z => z, rfl, q⟩
/-- e.f, e the error that is kept -/
def tXfP (K : PySem.W.Frag) (a : Addr) (cls : Value) (d : Option Addr) (f : Str) (te : TE) : TE := fun σ H Q => te σ H fun x H1 => x = .ref a ∧
  ∃ (C dd : Addr) (fs : List (Str × V)) (v : V), cls = .ref C ∧ ExcK K C ∧ PySem.W.findIn K (.ref C) f = some none ∧ d = some dd ∧ H1 dd = some (.xd fs) ∧ fs.lookup f = some v ∧ Q v H1
theorem pe_xfP {e : Expr} {te : TE} {pos : Pos} {n : Str} (hp : (a, oe) ∈ X.pn) (hz : Zc cls d oe) (hf : ∃ vs, oe.data = .fields vs) (he : PE X e te) (hb : attributeBase e n X.env (eval e X.env) = eval e X.env := by rfl) :
    PE X (.Attribute e n pos) (tXfP X.K a cls d n te) := by
  constructor
  intro pins s σ H Q I h
  refine attr_of hb (thn (he.run pins s σ H _ I h) fun u s1 hh => ?_)
  obtain ⟨x, H1, I1, rx, ex, C, dd, fs, v, ec, T, no, ed, ea, l, q⟩ := hh
  subst ex
  obtain rfl : u = Value.ref a := rx
  obtain ⟨od, mA, J, hl, hr⟩ := held_at hp hz hf I1 ec ed ea
  obtain ⟨u, hu, ru⟩ := RelO.some_of (v := v) (o := mA n) (by rw [← l]; exact hr n)
  exact HandSPX.exc_get I1.kIn J T.ga T.gg T.su (PySem.W.findObj_own T.hd no rfl ((hl n).trans (congrArg some hu))) (handed_of ru) ⟨v, H1, I1.tok _, ru, q⟩
end
/-! ### methods that may raise, in a try; in of instances; the text of dicts -/
section
variable {X : Cx} {CX : CXT} {k : Nat} {f C : Addr} {fd : FuncData} {ps : List Str} {sp : Sp} {m : Str} {pos apos : Pos} {e o : Expr} {es : List Expr} {ta : TE} {t : TA}
/-- o.m(e, ..) in a try: what it raises goes to the wish that the slots at hand have -/
def tMethX (C : Addr) (m : Str) (sp : Sp) (E : L2.St → XK) (ta : TE) (t : TA) : TE := fun σ H Q => tMeth C m sp [] (E σ) ta t σ H Q
theorem pe_methX {E : L2.St → XK} {pl : Sem Bool} (he : PE X o ta) (c : Cls X.K C) (hm : Meth X.K C m f) (F : FnOk X.prog X.w X.K X.mg X.base CX k f fd ps sp) (hr : Room k X.A) (hb : Binds X.K fd ps []) (hx : ∀ σ, PassesAt CX X σ (E σ)) (ha : PA X (e :: es) t)
    (hst : starEach (e :: es) X.env = (false, eval e X.env) :: starEach es X.env := by rfl) (hpl : (backTo pos (starEach es X.env)).any (·.1) = false := by rfl)
    (ht : eval (.Call (.Attribute o m apos) (e :: es) [] pos) X.env = (do
      let ov ← eval o X.env
      standAt apos.atName
      let (f, first) ← holding [ov] (getMethod ov m pl)
      callWith pos f first (backTo pos (starEach (e :: es) X.env)) (backToKw pos (keywordEach [] X.env))) := by rfl) :
    PE X (.Call (.Attribute o m apos) (e :: es) [] pos) (tMethX C m sp E ta t) := by
  constructor
  intro pins s σ H Q I h
  refine PySem.W.methodCall_KW (pl := pl) (thn (he.run pins s σ H _ I h) fun u s1 z => ?_) ht
  obtain ⟨x, H1, I1, rx, a, dx, fs, rfl, ea, l, q⟩ := z
  cases rx
  refine getmeth_ok I1 ea c hm l (PySem.W.callWith_K (first := [.ref a]) (h₀ := X.base) I.ok.mod.kin hm.kp (thn (ha.run pos pins s1 σ H1 _ I1 q) fun us s2 z => ?_) hst hpl)
  obtain ⟨vs, H2, I2, r, q2⟩ := z
  rw [List.append_nil] at q2
  exact ⟨I2.kIn, run_fnS (us := .ref a :: us) (vs := .ref a :: vs) F hr hb (hx σ) I2 (.cons rfl r) q2⟩
/-- x in y, y an instance of the class at C with a def for it -/
def rInI (C : Addr) (sp : Sp) (E : XK) (g : Bool → Bool) : R2 := fun x y H Q => ∃ b dy gs, y = .ref b ∧ H b = some (.ins C dy gs) ∧ sp [y, x] H (fun z H' => ∃ c, z = .bl c ∧ Q (.bl (g c)) H') E
theorem op_inI {E : XK} (hs : PySem.W.findIn X.K (.ref C) "__contains__" = some (some (.ref f))) (hf : PySem.W.isFn X.K (.ref f) = true)
    (F : FnOk X.prog X.w X.K X.mg X.base CX k f fd ps sp) (hr : Room k X.A) (hb : Binds X.K fd ps []) (hx : Passes CX X E) : OpR X (compareOp .In) (rInI C sp E id) := by
  intro pins s σ H x y v u Q I rx ry h
  obtain ⟨b, dy, gs, rfl, hb', q⟩ := h
  cases (show u = Value.ref b from ry)
  obtain ⟨mB, O, _⟩ := ins_get I.hok hb'
  obtain ⟨od, J, _⟩ := O.look
  obtain ⟨m, hF⟩ := I.fr
  refine PySem.W.in_K hF I.ok.mod.kin J hs hf ?_
  refine wpAny_mono (run_in (us := [.ref b, v]) (ws := [.ref b, x]) F hr hb I.env0 hx I (.cons rfl (.cons rx .nil)) q) (fun w s' z => ?_) fun _ _ x => x
  obtain ⟨z', H', I', rz, c, ec, qz⟩ := z
  subst ec
  cases (show w = Value.bool c from rz)
  exact wpAny_truthy_bool ⟨.bl c, H', I', rfl, qz⟩
theorem op_notInI {E : XK} (hs : PySem.W.findIn X.K (.ref C) "__contains__" = some (some (.ref f))) (hf : PySem.W.isFn X.K (.ref f) = true)
    (F : FnOk X.prog X.w X.K X.mg X.base CX k f fd ps sp) (hr : Room k X.A) (hb : Binds X.K fd ps []) (hx : Passes CX X E) : OpR X (compareOp .NotIn) (rInI C sp E (!·)) := by
  intro pins s σ H x y v u Q I rx ry h
  obtain ⟨b, dy, gs, rfl, hb', q⟩ := h
  cases (show u = Value.ref b from ry)
  obtain ⟨mB, O, _⟩ := ins_get I.hok hb'
  obtain ⟨od, J, _⟩ := O.look
  obtain ⟨m, hF⟩ := I.fr
  refine PySem.W.notIn_K hF I.ok.mod.kin J hs hf ?_
  refine wpAny_mono (run_in (us := [.ref b, v]) (ws := [.ref b, x]) F hr hb I.env0 hx I (.cons rfl (.cons rx .nil)) q) (fun w s' z => ?_) fun _ _ x => x
  obtain ⟨z', H', I', rz, c, ec, qz⟩ := z
  subst ec
  cases (show w = Value.bool c from rz)
  exact wpAny_truthy_bool ⟨.bl (!c), H', I', rfl, qz⟩
end
/-- data with dicts of small keys: what a value is, at any depth -/
inductive Dq (K : PySem.W.Frag) (H : Hp) : V → PyData → Prop
  | dp {v : V} {d : PyData} (h : Dp K H v d) : Dq K H v d
  | d0 {a : Addr} (h : H a = some (.dK [])) : Dq K H (.ref a) (.dict [])
  | d1 {a : Addr} {i j : Int} (h : H a = some (.dK [(.inl i, .int j)])) : Dq K H (.ref a) (.dict [(.int i, .int j)])
def rReprQ (K : PySem.W.Frag) : List V → Hp → VK → Prop := fun xs H Q =>
  ∃ (x : V) (d : PyData), xs = [x] ∧ Dq K H x d ∧ d.showable = true ∧ (d.hasDict = true → ∀ v, ¬ Dp K H v d) ∧
    d.depth ≤ 64 ∧ d.shown.length ≤ sizeLine ∧ (∀ i, x = .int i → i.natAbs.log2 < 1920) ∧ Q (.str d.shown) H
theorem Dq.cases2 {K : PySem.W.Frag} {H : Hp} {v : V} {d : PyData} (h : Dq K H v d) (n : d.hasDict = true → ∀ v, ¬ Dp K H v d) : (Dp K H v d ∧ d.hasDict = false) ∨ ∃ a kvs ds, v = .ref a ∧ d = .dict ds ∧ H a = some (.dK kvs) ∧
    ((kvs = [] ∧ ds = []) ∨ ∃ i j : Int, kvs = [(.inl i, .int j)] ∧ ds = [(.int i, .int j)]) := by
  cases h with
  | dp h =>
    refine .inl ⟨h, ?_⟩
    cases e : d.hasDict with
    | false => rfl
    | true => exact absurd h (n e _)
  | d0 h => exact .inr ⟨_, _, _, rfl, rfl, h, .inl ⟨rfl, rfl⟩⟩
  | d1 h => exact .inr ⟨_, _, _, rfl, rfl, h, .inr ⟨_, _, rfl, rfl⟩⟩
theorem call_reprQ {X : Cx} (hg : Calm X.A) (hu : X.A.units + 70 < cLine) : CallR X (.builtin "repr") (rReprQ X.K) := by
  intro pins s σ H xs us Q I r h
  obtain ⟨x, d, rfl, hd, hs, hn, hdep, hsz, hi, q⟩ := h
  rcases hd.cases2 hn with ⟨hd, nd⟩ | ⟨a, kvs, ds, rfl, rfl, ea, hk⟩
  · exact call_reprD hg hu pins s σ H _ us Q I r ⟨x, d, rfl, hd, hs, nd, hdep, hsz, hi, q⟩
  · obtain ⟨u, rfl, rx⟩ := vals1 r
    cases rx
    have z : ObjOk X.prog X.w H s.heap a (.dK kvs) := I.hok a _ ea
    obtain ⟨_, nsm, vs, hkv, o, es, ep, ho, ⟨hc, _, _⟩, hdat, _, hp, _⟩ := z
    have rd : Reads s.heap (.ref a) (.dict ds) (a :: ([] : List Addr) ++ []) := by
      rcases hk with ⟨rfl, rfl⟩ | ⟨i, j, rfl, rfl⟩
      · cases hkv
        have e0 : es.toList = [] := by
          cases hl : es.toList with
          | nil => rfl
          | cons _ _ =>
            rw [hl] at hp
            cases hp
        refine Reads.dict ho hc hdat ?_ ?_
        · rw [e0]
          exact .nil
        · rw [e0]
          exact .nil
      · obtain ⟨kq, vq, rfl, ek, rv⟩ : ∃ kq vq, vs = [(kq, vq)] ∧ (Sum.inl i : Key) = kq ∧ RelV (.int j) vq := by
          match vs, hkv with
          | [(kq, vq)], .cons h1 .nil => exact ⟨kq, vq, rfl, h1.1, h1.2⟩
        · cases hl : es.toList with
          | nil =>
            rw [hl] at hp
            cases hp
          | cons e1 r1 =>
            rw [hl] at hp
            cases hp with
            | cons hk1 hv1 hr1 =>
              cases hr1
              subst ek
              obtain ⟨t, ev⟩ := rv
              have ev' : e1.val = .int j t := hv1.trans ev
              rcases keyIs_shape (show keyIs (.inl i) e1.key = true from hk1) with ⟨i', t', e2, e3⟩ | ⟨x', t', e2, e3⟩
              · have ei : i = i' := Sum.inl.inj e2
                subst ei
                refine Reads.dict (as := [] ++ []) (bs := [] ++ []) ho hc hdat ?_ ?_
                · rw [hl]
                  show ReadsAll s.heap [e1.key] [PyData.int i] _
                  rw [e3]
                  exact .cons (.int i t') .nil
                · rw [hl]
                  show ReadsAll s.heap [e1.val] [PyData.int j] _
                  rw [ev']
                  exact .cons (.int j t) .nil
              · cases e2
    refine repr_of_reads' rd hs (fun _ hm => ?_) hg (by omega) (fun _ _ e => e) (fun h' u tk hk => ?_) hsz
    · rw [List.append_nil] at hm
      have e := List.mem_singleton.mp hm
      rw [← e] at nsm
      simp at nsm
    · exact ⟨.str _, H, I.kept (t' := tk) hk, ⟨_, rfl⟩, q⟩
theorem rd_reprQ {K : PySem.W.Frag} {H : Hp} {Q : VK} {v : V} {d : PyData} {k n : Nat} (h : Dp K H v d) (s : Sm k n d) (hk : k ≤ 60) (hn : n ≤ 50000) (q : Q (.str d.shown) H) : rReprQ K [v] H Q := by
  refine ⟨v, d, rfl, .dp h, s.sh, fun z => ?_, by have := s.dp; omega, s.text hn, fun i e => ?_, q⟩
  · rw [s.nd] at z
    cases z
  · subst e
    cases h
    have z := s.sh
    simp only [PyData.showable, decide_eq_true_eq] at z
    exact z
theorem rd_reprQ0 {K : PySem.W.Frag} {H : Hp} {Q : VK} {a : Addr} (h : H a = some (.dK [])) (q : Q (.str (PyData.shown (.dict []))) H) : rReprQ K [.ref a] H Q := by
  refine ⟨_, _, rfl, .d0 h, by simp [PyData.showable, PyData.showableKv], (fun _ v z => nomatch z), ?_, ?_, fun i e => V.noConfusion e, q⟩
  · simp [PyData.depth, PyData.depthKv]
  · exact few (by decide)
/-! ### errors with one value -/
theorem kit_sub {K : PySem.W.Frag} {C : Addr} {n : String} (hm : PySem.W.kitMeta n = true) (h : PySem.W.subIn K (.ref C) (.type n) = some true) : PySem.W.kitOne K (.ref C) (.type n) = some true := by
  unfold PySem.W.kitOne PySem.W.kitCls
  rw [if_neg (by simp)]
  first
    | (rw [if_pos hm]; exact h)
    | (simp only [hm, if_true]; exact h)
structure ErrT (K : PySem.W.Frag) (mg : Str → Option Value) (CW C : Addr) (nm : Str) : Prop where
  ox : OexC K C
  ek : ExcK K C
  nv : PySem.W.findIn K (.ref C) "value" = some none
  me : PySem.W.exmOne K (.ref C) (.ref CW) = some true
  kc : PySem.W.kitOne K (.ref C) (.ref C) = some true
  kv : PySem.W.kitOne K (.ref C) (.type "ValueError") = some true
  g : mg nm = some (.ref C)
def spBad (C : Addr) : Sp := fun vs H Q _ => ∃ (a : Addr) (v : V), vs = [.ref a, v] ∧ H a = some (exo a C none) ∧ ∀ dx, H dx = none → dx ≠ a → Q .non (upd (upd H dx (exd dx [("value", v)])) a (exo a C (some dx)))
theorem rd_bad {C : Addr} {H : Hp} {Q : XK} {E : XK} {v : V} (k : ∀ d H', H d = none → Same H H' → H' d = some (.xd [("value", v)]) → Q (.ref C) (some d) H') :
    [v].length ≤ 1000 ∧ ∀ a, H a = none → spBad C (.ref a :: ([v] ++ [])) (upd H a (exo a C none)) (fun u H2 => u = .non ∧ ∃ (d : Addr) (fs : List (Str × V)), H2 a = some (exo a C (some d)) ∧ H2 d = some (exd d fs) ∧ H d = none ∧ Q (.ref C) (some d) (upd (del H2 a) d (.xd fs))) E := by
  refine ⟨Nat.le_of_ble_eq_true rfl, fun a na => ⟨a, v, rfl, upd_same, fun dx nd ne => ?_⟩⟩
  have nd' : H dx = none := (upd_ne ne).symm.trans nd
  refine ⟨rfl, dx, _, upd_same, (upd_ne ne).trans upd_same, nd', k dx _ nd' (fun b o e => ?_) upd_same⟩
  have n1 : b ≠ a := ne_of_none e na
  have n2 : b ≠ dx := ne_of_none e nd'
  rw [upd_ne n2, del_ne n1, upd_ne n1, upd_ne n2, upd_ne n1]
  exact e
theorem rd_ost {K : PySem.W.Frag} {a C : Addr} {f : Str} {y : V} {H : Hp} {R : Hp → Prop} (T : OexC K C) (no : PySem.W.findIn K (.ref C) f = some none) (e : H a = some (exo a C none)) (k : ∀ dx, H dx = none → dx ≠ a → R (upd (upd H dx (exd dx [(f, y)])) a (exo a C (some dx)))) :
    ∃ a' C' : Addr, V.ref a = .ref a' ∧ OexC K C' ∧ PySem.W.findIn K (.ref C') f = some none ∧ ((H a' = some (exo a' C' none) ∧ ∀ dx, H dx = none → dx ≠ a' → R (upd (upd H dx (exd dx [(f, y)])) a' (exo a' C' (some dx)))) ∨
      ∃ (dx : Addr) (fs : List (Str × V)), H a' = some (exo a' C' (some dx)) ∧ H dx = some (exd dx fs) ∧ fs.length ≤ 900 ∧ R (upd H dx (exd dx ((f, y) :: fs)))) := ⟨a, C, rfl, T, no, .inl ⟨e, k⟩⟩
theorem pss_none {X : Cx} {l : List Stmt} : PSs X l (fun _ _ _ => False) := ⟨fun _ _ _ _ _ _ h => h.elim⟩
section
variable {X : Cx} {a : Addr} {oe : Obj} {cls : Value} {d : Option Addr} {pn : List (Addr × Obj)}
theorem call_isK (hz : Zc cls d oe) (hf : ∃ vs, oe.data = .fields vs) : CallR (kept X a oe pn) (.builtin "isinstance") (rIsP X.K a cls d) := call_isP (X := kept X a oe pn) List.mem_cons_self hz hf
theorem call_reprK (hg : Calm X.A) (hu : X.A.units + 70 < cLine) : CallR (kept X a oe pn) (.builtin "repr") (rReprQ X.K) := call_reprQ (X := kept X a oe pn) hg hu
theorem pe_xfK {e : Expr} {te : TE} {pos : Pos} {n : Str} (hz : Zc cls d oe) (hf : ∃ vs, oe.data = .fields vs) (he : PE (kept X a oe pn) e te) (hb : attributeBase e n X.env (eval e X.env) = eval e X.env := by rfl) :
    PE (kept X a oe pn) (.Attribute e n pos) (tXfP X.K a cls d n te) := pe_xfP (X := kept X a oe pn) List.mem_cons_self hz hf he hb
end
/-! ### own == with any value; != likewise; str of an instance; making that may raise -/
section
variable {prog : Program} {w : World} {A : Around} {E : Value → Shared → Prop} {s : Shared} {K : PySem.W.Frag} {x C f : Addr} {ox : Obj} {od : Option Obj} {b tb : Value}
theorem ne_KA {L : Addr} {h₀ : Heap} {m : Str → Option Value} {Q : Value → Shared → Prop} (hu : A.units + 1 < cLine) (F0 : PyProof.Rows.Fr h₀ L s.heap m) (X₀ : K.In h₀) (I : PySem.W.InstAt s.heap x ox C od) (hb : PySem.W.Looks (model prog w) s.heap (typeOf b) tb) (hnf : PySem.W.notFirst K C tb = true)
    (hm : PySem.W.mroIn K C (.type "object") = some true) (hn : PySem.W.findIn K (.ref C) "__ne__" = some (some (.builtin "object.__ne__"))) (hs : PySem.W.findIn K (.ref C) "__eq__" = some (some (.ref f))) (hf : PySem.W.isFn K (.ref f) = true)
    (h : wpAny (model prog w) A.in1 (call (.ref f) [.ref x, b]) (fun v s' => ∃ c, v = .bool c ∧ Q (.bool (!c)) s') E s) : wpAny (model prog w) A (richCompare .NotEq (.ref x) b) Q E s := by
  have X := X₀.keeps F0.keep
  have one : wpAny (model prog w) A (tryCompare (.ref x) "__ne__" b) (fun r s' => ∃ v, r = some v ∧ Q v s') E s := by
    unfold tryCompare
    refine wpAny_bind (ifBound_ne X I hn (wpAny_call (codeAny_call_builtin F.cmp_object.ne.plain F.cmpEntry_ne (PySem.W.check_slot F.cmpKind_ne F.cmpSplit_ne (I.type.andThen (PySem.W.looks_mroIn X hm)) (F.cmpArgs_ne _ _)
      (entry_ne (A := A.in1) hu X I hs hf (wpAny_mono h (fun v s' hv => ?_) fun _ _ e => e))))))
    obtain ⟨c, rfl, hq⟩ := hv
    first
      | exact ⟨c, rfl, wpAny_pure ⟨_, rfl, hq⟩⟩
      | exact ⟨c, rfl, _, rfl, hq⟩
  have fin : wpAny (model prog w) A (tryCompare (.ref x) "__ne__" b) (fun r s' => ∃ v, r = some v ∧ Q v s') E s := one
  simp only [richCompare, cmpInfo_NotEq, oneThing_ref]
  refine wpAny_holding (wpAny_bind (wpAny_cRoomFor (Nat.lt_of_succ_lt hu) ?_))
  refine wpAny_bind (I.type.here (wpAny_bind (hb.here ?_)))
  by_cases q : (Value.ref C != tb) = true
  · have e : PySem.W.subIn K tb (.ref C) = some false := by
      rcases Bool.or_eq_true_iff.mp hnf with e | e
      · rw [beq_iff_eq.mp e] at q
        simp at q
      · exact beq_iff_eq.mp e
    rw [if_pos q]
    refine wpAny_bind ((PySem.W.looks_subIn X e).here ?_)
    simp only [Bool.false_eq_true, if_false]
    refine wpAny_bind (wpAny_mono fin (fun r s' z => ?_) fun _ _ e => e)
    obtain ⟨v, rfl, hq⟩ := z
    exact wpAny_pure hq
  · rw [if_neg q]
    refine wpAny_bind (wpAny_pure ?_)
    simp only [Bool.false_eq_true, if_false]
    refine wpAny_bind (wpAny_mono fin (fun r s' z => ?_) fun _ _ e => e)
    obtain ⟨v, rfl, hq⟩ := z
    exact wpAny_pure hq
end
section
variable {X : Cx} {CX : CXT} {C g : Addr} {fd : FuncData} {ps : List Str} {k : Nat} {sp : Sp} {E : XK} {e : Expr} {es : List Expr} {t : TA} {x : Str} {p pos : Pos}
/-- x == y: x an instance of the class at C, whose def for it is at g; y of any type that does not go first -/
def rOwnA (K : PySem.W.Frag) (C : Addr) (sp : Sp) (E : XK) : R2 := fun x y H Q => ∃ a dx fs ty, x = .ref a ∧ H a = some (.ins C dx fs) ∧ TyX K H y ty ∧ PySem.W.notFirst K C ty = true ∧ sp [x, y] H Q E
theorem op_eqA {K0 : PySem.W.Frag} (hK : X.K = K0) (hs : PySem.W.findIn X.K (.ref C) "__eq__" = some (some (.ref g))) (hf : PySem.W.isFn X.K (.ref g) = true)
    (F : FnOk X.prog X.w X.K X.mg X.base CX k g fd ps sp) (hr : Room k X.A) (hb : Binds X.K fd ps []) (hx : Passes CX X E) : OpR X (compareOp .Eq) (rOwnA K0 C sp E) := by
  subst hK
  intro pins s σ H x y v u Q I rx ry h
  obtain ⟨a, dx, fs, ty, rfl, ha, hty, hnf, q⟩ := h
  cases (show v = Value.ref a from rx)
  obtain ⟨mA, O, _⟩ := ins_get I.hok ha
  obtain ⟨od, J, _⟩ := O.look
  obtain ⟨R, kx, kr, _⟩ := kit_of I ry hty
  obtain ⟨m, hF⟩ := I.fr
  show wpAny _ _ (richCompare .Eq (.ref a) u) _ _ s
  refine PySem.W.cmp_K (op := .Eq) (tb := ty) hr.units0 hF I.ok.mod.kin J (kx.ty _ _ I.kIn kr) hnf hs hf ?_
  refine wpAny_mono (run_in (us := [.ref a, u]) (ws := [.ref a, y]) F hr hb I.env0 hx I (.cons rfl (.cons ry .nil)) q) (fun w s' z => ?_) fun _ _ x => x
  obtain ⟨z', H', I', rz, qz⟩ := z
  exact SlX.cmpback rz ⟨z', H', I', rz, qz⟩
/-- x != y by the own == -/
def rNeA (K : PySem.W.Frag) (C : Addr) (sp : Sp) (E : XK) : R2 := fun x y H Q => ∃ a dx fs ty, x = .ref a ∧ H a = some (.ins C dx fs) ∧ TyX K H y ty ∧ PySem.W.notFirst K C ty = true ∧ sp [x, y] H (fun z H' => ∃ c, z = .bl c ∧ Q (.bl (!c)) H') E
theorem op_neA {K0 : PySem.W.Frag} (hK : X.K = K0) (hm : PySem.W.mroIn X.K C (.type "object") = some true) (hn : PySem.W.findIn X.K (.ref C) "__ne__" = some (some (.builtin "object.__ne__"))) (hs : PySem.W.findIn X.K (.ref C) "__eq__" = some (some (.ref g))) (hf : PySem.W.isFn X.K (.ref g) = true)
    (F : FnOk X.prog X.w X.K X.mg X.base CX k g fd ps sp) (hr : Room (k + 1) X.A) (hb : Binds X.K fd ps []) (hx : Passes CX X E) (hu : X.A.units + 1 < cLine) : OpR X (compareOp .NotEq) (rNeA K0 C sp E) := by
  subst hK
  intro pins s σ H x y v u Q I rx ry h
  obtain ⟨a, dx, fs, ty, rfl, ha, hty, hnf, q⟩ := h
  cases (show v = Value.ref a from rx)
  obtain ⟨mA, O, _⟩ := ins_get I.hok ha
  obtain ⟨od, J, _⟩ := O.look
  obtain ⟨R, kx, kr, _⟩ := kit_of I ry hty
  obtain ⟨m, hF⟩ := I.fr
  show wpAny _ _ (richCompare .NotEq (.ref a) u) _ _ s
  refine ne_KA (tb := ty) hu hF I.ok.mod.kin J (kx.ty _ _ I.kIn kr) hnf hm hn hs hf ?_
  refine wpAny_mono (run_in (us := [.ref a, u]) (ws := [.ref a, y]) F hr.in1 hb I.env0.in1 hx I (.cons rfl (.cons ry .nil)) q) (fun w s' z => ?_) fun _ _ x => x
  obtain ⟨z', H', I', rz, c, ec, qz⟩ := z
  subst ec
  cases (show w = Value.bool c from rz)
  exact ⟨c, rfl, .bl (!c), H', I', rfl, qz⟩
/-- str(x), x an instance whose class has a def for it -/
def rStrI (C : Addr) (sp : Sp) (E : XK) : List V → Hp → VK → Prop := fun xs H Q => ∃ a dx fs, xs = [.ref a] ∧ H a = some (.ins C dx fs) ∧ sp [.ref a] H (fun z H' => ∃ t, z = .str t ∧ Q (.str t) H') E
theorem call_strI (hs : PySem.W.findIn X.K (.ref C) "__str__" = some (some (.ref g))) (hf : PySem.W.isFn X.K (.ref g) = true)
    (F : FnOk X.prog X.w X.K X.mg X.base CX k g fd ps sp) (hr : Room (k + 2) X.A) (hb : Binds X.K fd ps []) (hx : Passes CX X E) (hu : X.A.units + 70 < cLine) : CallR X (.type "str") (rStrI C sp E) := by
  intro pins s σ H xs us Q I r h
  obtain ⟨a, dx, fs, rfl, ha, q⟩ := h
  obtain ⟨u, rfl, rx⟩ := vals1 r
  cases rx
  obtain ⟨mA, O, _⟩ := ins_get I.hok ha
  obtain ⟨od, J, _⟩ := O.look
  refine PySem.W.kso_call (by show X.A.units + 1 + 1 < cLine; omega) I.kIn J hs hf ?_
  refine wpAny_mono (run_in (us := [.ref a]) (ws := [.ref a]) F hr.in1.in1 hb I.env0.in1.in1 hx I (.cons rfl .nil) q) (fun w s' z => ?_) fun _ _ x => x
  obtain ⟨z', H', I', rz, t, et, qz⟩ := z
  subst et
  obtain ⟨tk, rfl⟩ := rz
  exact ⟨.str t, H', I', ⟨_, rfl⟩, qz⟩
/-- C(e, ..) in a try: what it raises goes to the wish that the slots at hand have -/
def tMakeX (C : Addr) (sp : Sp) (E : L2.St → XK) (t : TA) : TE := fun σ H Q => tMake C sp [] (E σ) t σ H Q
theorem pe_makeX {f : Addr} {E : L2.St → XK} (M : Mk X.K C f) (F : FnOk X.prog X.w X.K X.mg X.base CX k f fd ps sp) (hr : Room (k + 1) X.A) (hg : Gl X x) (hm : X.mg x = some (.ref C)) (hb : Binds X.K fd ps []) (hx : ∀ σ, PassesAt CX X σ (E σ))
    (ha : PA X (e :: es) t) (hdb : (x == ("__debug__" : Str)) = false := by decide) (he : starEach (e :: es) X.env = (false, eval e X.env) :: starEach es X.env := by rfl) (hpl : (backTo pos (starEach es X.env)).any (·.1) = false := by rfl) :
    PE X (.Call (.Name x p) (e :: es) [] pos) (tMakeX C sp E t) := by
  constructor
  intro pins s σ H Q I h
  refine wpAny_Call_Name_kw (ld_glob I hg hm (PySem.W.callWith_K (h₀ := X.base) I.ok.mod.kin M.kp (thn (ha.run pos pins s σ H _ I h) fun us s1 z => ?_) he hpl) hdb)
  obtain ⟨vs, H1, J, r, q0⟩ := z
  have q : ∀ x dx, H1 x = none → H1 dx = none → dx ≠ x → sp (.ref x :: (vs ++ [])) (upd (upd H1 dx (.own x)) x (.ins C dx [])) (fun v H2 => v = .non ∧ Q (.ref x) H2) (E σ) := q0
  refine ⟨J.kIn, ?_⟩
  have hq := q (s1.heap.objs.size + 1) s1.heap.objs.size (J.hok.fresh (Nat.le_succ _)) (J.hok.fresh (Nat.le_refl _)) (Nat.ne_of_lt (Nat.lt_succ_self _))
  have I2 := Inv.made (C := C) J
  have r2 : Vals (V.ref (s1.heap.objs.size + 1) :: (vs ++ [])) (Value.ref (s1.heap.objs.size + 1) :: (us ++ [])) := .cons rfl (r.append .nil)
  have hl : (Value.ref (s1.heap.objs.size + 1) :: us ++ []).length = ps.length := r2.length.symm.trans (F.len _ _ _ _ hq)
  refine wpAny_call (make_map (f := f) J.kIn M.makes M.init (beq_iff_eq.mp M.fn) (codeAny_mono (F.run _ X.stack _ _ ⟨Value.ref (s1.heap.objs.size + 1) :: us, []⟩ (Value.ref (s1.heap.objs.size + 1) :: (us ++ [])) _ _ (E σ) (hr.make C us [])
    (I2.env0.make C us []) (by have z := hb _ (Value.ref (s1.heap.objs.size + 1) :: us) I2.kIn hl; rw [List.append_nil] at z ⊢; exact z) r2 hq) fun r s' z => ?_))
  match r, z with
  | .error e, z => exact hx σ pins _ _ e s' I2 z
  | .ok (.ret _), z =>
    obtain ⟨v, H', I3, rv, ev, q3⟩ := I2.after z
    subst ev
    exact ⟨rv, ⟨V.ref (s1.heap.objs.size + 1), H', I3, rfl, q3⟩⟩
  | .ok .next, z => exact z.elim
  | .ok .brk, z => exact z.elim
  | .ok .cont, z => exact z.elim
end
/-! ### errors with two values -/
structure ErrT2 (K : PySem.W.Frag) (mg : Str → Option Value) (CW C : Addr) (nm f1 f2 : Str) : Prop where
  ox : OexC K C
  ek : ExcK K C
  n1 : PySem.W.findIn K (.ref C) f1 = some none
  n2 : PySem.W.findIn K (.ref C) f2 = some none
  me : PySem.W.exmOne K (.ref C) (.ref CW) = some true
  kc : PySem.W.kitOne K (.ref C) (.ref C) = some true
  kv : PySem.W.kitOne K (.ref C) (.type "ValueError") = some true
  g : mg nm = some (.ref C)
def spBad2 (C : Addr) (f1 f2 : Str) : Sp := fun vs H Q _ => ∃ (a : Addr) (v w : V), vs = [.ref a, v, w] ∧ H a = some (exo a C none) ∧ ∀ dx, H dx = none → dx ≠ a → Q .non (upd (upd (upd H dx (exd dx [(f1, v)])) a (exo a C (some dx))) dx (exd dx [(f2, w), (f1, v)]))
theorem rd_bad2 {C : Addr} {f1 f2 : Str} {H : Hp} {Q : XK} {E : XK} {v w : V} (k : ∀ d H', H d = none → Same H H' → H' d = some (.xd [(f2, w), (f1, v)]) → Q (.ref C) (some d) H') :
    [v, w].length ≤ 1000 ∧ ∀ a, H a = none → spBad2 C f1 f2 (.ref a :: ([v, w] ++ [])) (upd H a (exo a C none)) (fun u H2 => u = .non ∧ ∃ (d : Addr) (fs : List (Str × V)), H2 a = some (exo a C (some d)) ∧ H2 d = some (exd d fs) ∧ H d = none ∧ Q (.ref C) (some d) (upd (del H2 a) d (.xd fs))) E := by
  refine ⟨Nat.le_of_ble_eq_true rfl, fun a na => ⟨a, v, w, rfl, upd_same, fun dx nd ne => ?_⟩⟩
  have nd' : H dx = none := (upd_ne ne).symm.trans nd
  refine ⟨rfl, dx, _, (upd_ne ne.symm).trans upd_same, upd_same, nd', k dx _ nd' (fun b o e => ?_) upd_same⟩
  have n1 : b ≠ a := ne_of_none e na
  have n2 : b ≠ dx := ne_of_none e nd'
  rw [upd_ne n2, del_ne n1, upd_ne n2, upd_ne n1, upd_ne n2, upd_ne n1]
  exact e
theorem rd_ost2 {K : PySem.W.Frag} {a C dx : Addr} {f : Str} {y : V} {H : Hp} {R : Hp → Prop} {fs : List (Str × V)} (T : OexC K C) (no : PySem.W.findIn K (.ref C) f = some none) (e : H a = some (exo a C (some dx))) (ed : H dx = some (exd dx fs)) (hl : fs.length ≤ 900) (k : R (upd H dx (exd dx ((f, y) :: fs)))) :
    ∃ a' C' : Addr, V.ref a = .ref a' ∧ OexC K C' ∧ PySem.W.findIn K (.ref C') f = some none ∧ ((H a' = some (exo a' C' none) ∧ ∀ dx, H dx = none → dx ≠ a' → R (upd (upd H dx (exd dx [(f, y)])) a' (exo a' C' (some dx)))) ∨
      ∃ (dx : Addr) (fs : List (Str × V)), H a' = some (exo a' C' (some dx)) ∧ H dx = some (exd dx fs) ∧ fs.length ≤ 900 ∧ R (upd H dx (exd dx ((f, y) :: fs)))) := ⟨a, C, rfl, T, no, .inr ⟨dx, fs, e, ed, hl, k⟩⟩
/-! ### data with dicts within, at any depth -/
mutual
inductive Dz (H : Hp) : V → PyData → Prop
  | non : Dz H .non .none
  | bl (b : Bool) : Dz H (.bl b) (.bool b)
  | int (i : Int) : Dz H (.int i) (.int i)
  | str (x : Str) : Dz H (.str x) (.str x)
  | lst {a : Addr} {xs : List V} {ds : List PyData} : a ≠ sysModules → H a = some (.lst xs) → DzAll H xs ds → Dz H (.ref a) (.list ds)
  | tup {a : Addr} {xs : List V} {ds : List PyData} : H a = some (.tup xs) → DzAll H xs ds → Dz H (.ref a) (.tuple ds)
  | d0 {a : Addr} : H a = some (.dK []) → Dz H (.ref a) (.dict [])
  | d1 {a : Addr} {i j : Int} : H a = some (.dK [(.inl i, .int j)]) → Dz H (.ref a) (.dict [(.int i, .int j)])
inductive DzAll (H : Hp) : List V → List PyData → Prop
  | nil : DzAll H [] []
  | cons {v : V} {vs : List V} {d : PyData} {ds : List PyData} : Dz H v d → DzAll H vs ds → DzAll H (v :: vs) (d :: ds)
end
section
variable {X : Cx} {pins : List (Addr × Obj)} {σ : L2.St} {H : Hp} {s : Shared}
theorem d_reads {a : Addr} {kvs : List (Key × V)} {ds : List (PyData × PyData)} (I : Inv X pins σ H s) (ea : H a = some (.dK kvs)) (hk : (kvs = [] ∧ ds = []) ∨ ∃ i j : Int, kvs = [(.inl i, .int j)] ∧ ds = [(.int i, .int j)]) :
    Reads s.heap (.ref a) (.dict ds) (a :: ([] : List Addr) ++ []) ∧ sysModules ∉ (a :: ([] : List Addr) ++ []) := by
  have z : ObjOk X.prog X.w H s.heap a (.dK kvs) := I.hok a _ ea
  obtain ⟨_, nsm, vs, hkv, o, es, ep, ho, ⟨hc, _, _⟩, hdat, _, hp, _⟩ := z
  have rd : Reads s.heap (.ref a) (.dict ds) (a :: ([] : List Addr) ++ []) := by
    rcases hk with ⟨rfl, rfl⟩ | ⟨i, j, rfl, rfl⟩
    · cases hkv
      have e0 : es.toList = [] := by
        cases hl : es.toList with
        | nil => rfl
        | cons _ _ =>
          rw [hl] at hp
          cases hp
      refine Reads.dict ho hc hdat ?_ ?_
      · rw [e0]
        exact .nil
      · rw [e0]
        exact .nil
    · obtain ⟨kq, vq, rfl, ek, rv⟩ : ∃ kq vq, vs = [(kq, vq)] ∧ (Sum.inl i : Key) = kq ∧ RelV (.int j) vq := by
        match vs, hkv with
        | [(kq, vq)], .cons h1 .nil => exact ⟨kq, vq, rfl, h1.1, h1.2⟩
      · cases hl : es.toList with
        | nil =>
          rw [hl] at hp
          cases hp
        | cons e1 r1 =>
          rw [hl] at hp
          cases hp with
          | cons hk1 hv1 hr1 =>
            cases hr1
            subst ek
            obtain ⟨t, ev⟩ := rv
            have ev' : e1.val = .int j t := hv1.trans ev
            rcases keyIs_shape (show keyIs (.inl i) e1.key = true from hk1) with ⟨i', t', e2, e3⟩ | ⟨x', t', e2, e3⟩
            · have ei : i = i' := Sum.inl.inj e2
              subst ei
              refine Reads.dict (as := [] ++ []) (bs := [] ++ []) ho hc hdat ?_ ?_
              · rw [hl]
                show ReadsAll s.heap [e1.key] [PyData.int i] _
                rw [e3]
                exact .cons (.int i t') .nil
              · rw [hl]
                show ReadsAll s.heap [e1.val] [PyData.int j] _
                rw [ev']
                exact .cons (.int j t) .nil
            · cases e2
  refine ⟨rd, fun hm => ?_⟩
  rw [List.append_nil] at hm
  have e := List.mem_singleton.mp hm
  rw [← e] at nsm
  simp at nsm
theorem no_app {a : Addr} {l m : List Addr} (h1 : a ∉ l) (h2 : a ∉ m) : a ∉ l ++ m := fun h => (List.mem_append.mp h).elim h1 h2
mutual
theorem Dz.reads (I : Inv X pins σ H s) : ∀ {v : V} {d : PyData} {u : Value}, Dz H v d → RelV v u → ∃ as, Reads s.heap u d as ∧ sysModules ∉ as
  | _, _, _, .non, r => by
    cases r
    exact ⟨_, .none, List.not_mem_nil⟩
  | _, _, _, .bl b, r => by
    cases r
    exact ⟨_, .bool b, List.not_mem_nil⟩
  | _, _, _, .int i, r => by
    obtain ⟨t, rfl⟩ := r
    exact ⟨_, .int i t, List.not_mem_nil⟩
  | _, _, _, .str x, r => by
    obtain ⟨t, rfl⟩ := r
    exact ⟨_, .str x t, List.not_mem_nil⟩
  | _, _, _, .lst (a := a) (xs := xs) na ha hd, r => by
    cases r
    have z : ObjOk X.prog X.w H s.heap a (.lst xs) := I.hok a _ ha
    obtain ⟨_, its, n, rv, e⟩ := z
    obtain ⟨as, q, no⟩ := DzAll.reads I hd rv
    exact ⟨_, .list e rfl rfl q, fun h => (List.mem_cons.mp h).elim (fun e => na e.symm) no⟩
  | _, _, _, .tup (a := a) (xs := xs) ha hd, r => by
    cases r
    have z : ObjOk X.prog X.w H s.heap a (.tup xs) := I.hok a _ ha
    obtain ⟨_, its, rv, ob, e, c, n, dd⟩ := z
    obtain ⟨as, q, no⟩ := DzAll.reads I hd rv
    exact ⟨_, .tuple e c dd q, no⟩
  | _, _, _, .d0 (a := a) ha, r => by
    cases r
    exact ⟨_, d_reads I ha (.inl ⟨rfl, rfl⟩)⟩
  | _, _, _, .d1 (a := a) ha, r => by
    cases r
    exact ⟨_, d_reads I ha (.inr ⟨_, _, rfl, rfl⟩)⟩
theorem DzAll.reads (I : Inv X pins σ H s) : ∀ {vs : List V} {ds : List PyData} {us : List Value}, DzAll H vs ds → Vals vs us → ∃ as, ReadsAll s.heap us ds as ∧ sysModules ∉ as
  | _, _, _, .nil, r => by
    cases r
    exact ⟨_, .nil, List.not_mem_nil⟩
  | _, _, _, .cons h t, r => by
    cases r with
    | cons r1 r2 =>
      obtain ⟨as, q, no⟩ := Dz.reads I h r1
      obtain ⟨bs, q2, no2⟩ := DzAll.reads I t r2
      exact ⟨_, .cons q q2, no_app no no2⟩
end
end
def rReprZ : List V → Hp → VK → Prop := fun xs H Q => ∃ (x : V) (d : PyData), xs = [x] ∧ Dz H x d ∧ d.showable = true ∧ d.depth ≤ 64 ∧ d.shown.length ≤ sizeLine ∧ (∀ i, x = .int i → i.natAbs.log2 < 1920) ∧ Q (.str d.shown) H
theorem call_reprZ {X : Cx} (hg : Calm X.A) (hu : X.A.units + 70 < cLine) : CallR X (.builtin "repr") rReprZ := by
  intro pins s σ H xs us Q I r h
  obtain ⟨x, d, rfl, hd, hs, hdep, hsz, hi, q⟩ := h
  obtain ⟨u, rfl, rx⟩ := vals1 r
  obtain ⟨as, rd, no⟩ := Dz.reads I hd rx
  have go : ∀ a, u = .ref a → wpAny (model X.prog X.w) X.A (call (.builtin "repr") [u]) (EP X pins σ Q) X.xe s := fun a e => by
    subst e
    refine repr_of_reads' rd hs (fun _ => no) hg (by omega) (fun _ _ e => e) (fun h' u tk hk => ?_) hsz
    exact ⟨.str _, H, I.kept (t' := tk) hk, ⟨_, rfl⟩, q⟩
  cases hd with
  | non =>
    cases rx
    exact PySem.P.repr_of_none ⟨.str _, H, I.tok _, ⟨_, rfl⟩, q⟩
  | bl b =>
    cases rx
    refine PySem.P.repr_of_bool ⟨.str _, H, I.tok _, ⟨_, rfl⟩, ?_⟩
    cases b <;> exact q
  | int i =>
    obtain ⟨t, rfl⟩ := rx
    exact PySem.P.repr_of_int (hi i rfl) ⟨.str _, H, I.tok _, ⟨_, rfl⟩, q⟩
  | str z =>
    obtain ⟨t, rfl⟩ := rx
    exact PySem.P.repr_of_str ⟨.str _, H, I.tok _, ⟨_, rfl⟩, q⟩ hsz
  | lst _ _ _ => exact go _ rx
  | tup _ _ => exact go _ rx
  | d0 _ => exact go _ rx
  | d1 _ => exact go _ rx
theorem call_reprZK {X : Cx} {a : Addr} {oe : Obj} {pn : List (Addr × Obj)} (hg : Calm X.A) (hu : X.A.units + 70 < cLine) : CallR (kept X a oe pn) (.builtin "repr") rReprZ := call_reprZ (X := kept X a oe pn) hg hu
mutual
theorem Dz.same {H H' : Hp} (S : Same H H') : ∀ {v : V} {d : PyData}, Dz H v d → Dz H' v d
  | _, _, .non => .non
  | _, _, .bl b => .bl b
  | _, _, .int i => .int i
  | _, _, .str x => .str x
  | _, _, .lst na ha hd => .lst na (S _ _ ha) (DzAll.same S hd)
  | _, _, .tup ha hd => .tup (S _ _ ha) (DzAll.same S hd)
  | _, _, .d0 ha => .d0 (S _ _ ha)
  | _, _, .d1 ha => .d1 (S _ _ ha)
theorem DzAll.same {H H' : Hp} (S : Same H H') : ∀ {vs : List V} {ds : List PyData}, DzAll H vs ds → DzAll H' vs ds
  | _, _, .nil => .nil
  | _, _, .cons h t => .cons (Dz.same S h) (DzAll.same S t)
end
/-- small data, dicts within or not -/
structure Sz (k n : Nat) (d : PyData) : Prop where
  sh : d.showable = true
  ls : d.leavesShort 250 = true
  wt : d.weight ≤ n
  dp : d.depth ≤ k
structure SzAll (k n : Nat) (ds : List PyData) : Prop where
  sh : PyData.showableAll ds = true
  ls : PyData.leavesShortAll 250 ds = true
  wt : PyData.weightAll ds ≤ n
  dp : PyData.depthAll ds ≤ k
theorem Sm.z {k n : Nat} {d : PyData} (h : Sm k n d) : Sz k n d := ⟨h.sh, h.ls, h.wt, h.dp⟩
theorem Sz.up {k n k' n' : Nat} {d : PyData} (h : Sz k n d) (hk : k ≤ k') (hn : n ≤ n') : Sz k' n' d := ⟨h.sh, h.ls, Nat.le_trans h.wt hn, Nat.le_trans h.dp hk⟩
theorem sz_nil {k : Nat} : SzAll k 0 [] := ⟨by simp [PyData.showableAll], by simp [PyData.leavesShortAll], by simp [PyData.weightAll], by simp [PyData.depthAll]⟩
theorem sz_cons {k a b : Nat} {d : PyData} {ds : List PyData} (h : Sz k a d) (t : SzAll k b ds) : SzAll k (a + 1 + b) (d :: ds) := by
  refine ⟨by simp [PyData.showableAll, h.sh, t.sh], by simp [PyData.leavesShortAll, h.ls, t.ls], ?_, ?_⟩
  · have := h.wt
    have := t.wt
    simp only [PyData.weightAll]
    omega
  · have := h.dp
    have := t.dp
    simp only [PyData.depthAll]
    omega
theorem sz_list {k n : Nat} {ds : List PyData} (t : SzAll k n ds) : Sz (k + 1) n (.list ds) :=
  ⟨by simp [PyData.showable, t.sh], by simp [PyData.leavesShort, t.ls], by simp [PyData.weight, t.wt], by have := t.dp; simp only [PyData.depth]; omega⟩
theorem sz_tup {k n : Nat} {ds : List PyData} (t : SzAll k n ds) : Sz (k + 1) n (.tuple ds) :=
  ⟨by simp [PyData.showable, t.sh], by simp [PyData.leavesShort, t.ls], by simp [PyData.weight, t.wt], by have := t.dp; simp only [PyData.depth]; omega⟩
theorem sz_d0 {k : Nat} : Sz (k + 1) 0 (.dict []) := ⟨by simp [PyData.showable, PyData.showableKv], by simp [PyData.leavesShort, PyData.leavesShortKv], by simp [PyData.weight, PyData.weightKv], by simp [PyData.depth, PyData.depthKv]⟩
theorem sz_d1 {k : Nat} {i j : Int} (a : -(2 ^ 200) < i) (b : i < 2 ^ 200) (c : -(2 ^ 200) < j) (d : j < 2 ^ 200) : Sz (k + 1) 404 (.dict [(.int i, .int j)]) := by
  have x := sm_int (k := 0) a b
  have y := sm_int (k := 0) c d
  refine ⟨by simp only [PyData.showable, PyData.showableKv] at x y ⊢; rw [show decide (i.natAbs.log2 < 1920) = true by have := x.sh; simpa [PyData.showable] using this, show decide (j.natAbs.log2 < 1920) = true by have := y.sh; simpa [PyData.showable] using this]; rfl,
    by simp only [PyData.leavesShort, PyData.leavesShortKv]; rw [show decide ((PyData.shown (.int i)).length ≤ 250) = true by have := x.ls; simpa only [PyData.leavesShort] using this, show decide ((PyData.shown (.int j)).length ≤ 250) = true by have := y.ls; simpa only [PyData.leavesShort] using this]; rfl, ?_, ?_⟩
  · have := x.wt
    have := y.wt
    simp only [PyData.weight, PyData.weightKv] at *
    omega
  · simp [PyData.depth, PyData.depthKv]
theorem Sz.text {k n : Nat} {d : PyData} (h : Sz k n d) (hn : n ≤ 50000) : d.shown.length ≤ sizeLine := by
  have e := PyData.shown_le 250 (by decide) d h.ls
  have w := h.wt
  rw [sizeLine_eq]
  omega
theorem rd_reprZ {H : Hp} {Q : VK} {v : V} {d : PyData} {k n : Nat} (h : Dz H v d) (s : Sz k n d) (hk : k ≤ 60) (hn : n ≤ 50000) (q : Q (.str d.shown) H) : rReprZ [v] H Q := by
  refine ⟨v, d, rfl, h, s.sh, by have := s.dp; omega, s.text hn, fun i e => ?_, q⟩
  subst e
  cases h
  have z := s.sh
  simp only [PyData.showable, decide_eq_true_eq] at z
  exact z
/-- a list's display, told that it is no module table -/
def tLstN (t : TA) : TE := fun σ H Q => t σ H fun xs H1 => xs.length ≤ sizeLine ∧ ∀ p, p ≠ sysModules → H1 p = none → Q (.ref p) (upd H1 p (.lst xs))
theorem pe_lstN {X : Cx} {es : List Expr} {t : TA} {pos : Pos} (h : PA X es t) : PE X (.List es pos) (tLstN t) := by
  constructor
  intro pins s σ H Q I hq
  refine wpAny_List_spliced (thn (h.run pos pins s σ H _ I hq) fun us s1 z => ?_)
  obtain ⟨xs, H1, J, r, z, q⟩ := z
  have fresh := J.hok.fresh (Nat.le_refl s1.heap.objs.size)
  exact ⟨r.length ▸ z, .ref s1.heap.objs.size, upd H1 s1.heap.objs.size (.lst xs), J.laid (t' := s1.toks) (fun _ _ e => Heap.get?_push_of_some _ e) (Nat.le_refl _) ⟨z, us, 0, r, Heap.get?_push_size _ rfl⟩, rfl, q _ (Nat.ne_of_gt J.big) fresh⟩
/-! ### a list times an int, told that it is no module table -/
def rRepN : R2 := fun x y H Q => ∃ l k xs, x = .ref l ∧ y = .int k ∧ H l = some (.lst xs) ∧ -(2 ^ 63) ≤ k ∧ k < 2 ^ 63 ∧ xs.length * k.toNat ≤ sizeLine ∧
  ∀ p, p ≠ sysModules → H p = none → Q (.ref p) (upd H p (.lst (List.replicate k.toNat xs).flatten))
theorem all_at_once (its : List Value) (m : Nat) : List.foldl (fun a b => a ++ b) #[] (List.replicate (if its.toArray.isEmpty = true then 0 else m) its.toArray) = (List.replicate m its).flatten.toArray := by
  have z := foldl_rep its m []
  rw [List.nil_append] at z
  cases its with
  | nil =>
    rw [← z]
    have no : ∀ j : Nat, List.foldl (fun a b : Array Value => a ++ b) #[] (List.replicate j #[]) = #[] := fun j => by
      induction j with
      | zero => rfl
      | succ j ih => rw [List.replicate_succ, List.foldl_cons]; simpa using ih
    simp [no]
  | cons a r =>
    rw [if_neg (by simp)]
    exact z
theorem op_repN {X : Cx} : OpR X (binaryOp .Mult) rRepN := by
  intro pins s σ H x y v u Q I rx ry h
  obtain ⟨l, k, xs, ex, ey, at_l, k1, k2, fits, q⟩ := h
  subst ex
  subst ey
  cases rx
  obtain ⟨t, et⟩ := ry
  subst et
  obtain ⟨_, its, n, rel, len, e⟩ := I.lstM at_l
  have fits' : its.toArray.size * k.toNat ≤ sizeLine := by
    rw [List.size_toArray, ← len]
    exact fits
  have cap : ¬ its.toArray.size * k.toNat > (2 ^ 63 - 1) / 8 := fun z => absurd (Nat.lt_of_lt_of_le z fits') (by decide)
  have idx : ¬ (!Builtin.List.listFitsIndex k) = true := by rw [fitsIndex_both k1 k2]; simp
  have long : ¬ Builtin.List.listTooLong (its.toArray.size * k.toNat) = true := by rw [notLongL fits']; simp
  refine wpAny_binaryOp_repeat_ref (T := "list") (U := "int") (by decide) ⟨_, e, rfl⟩ (fun s' => typeIs_int s' k t) noFill_list_mul
    F.fills_int_mul F.slot_int_rmul repeat_list F.slot_int_index.lookup ?_
  refine call_meets F.slot_int_rmul (typeIs_int s k t)
    F.entry_int_rmul (F.args_int_rmul_2 _ _) (int___rmul___int_list k t l its.toArray n) ⟨e, rfl, ⟨_, e, rfl⟩, ?_⟩
  refine call_meets F.slot_list_mul ⟨_, e, rfl⟩ F.entry_list_mul
    (F.args_list_mul_2 _ _) (AutoListH.list___mul___list_int_3 l its.toArray n k t idx cap long) ⟨e, ?_⟩
  rw [all_at_once]
  have sz : (List.replicate k.toNat xs).flatten.length ≤ sizeLine := by
    rw [PyProof.Rows.lm_len_rep_flat, Nat.mul_comm]
    exact fits
  exact ⟨.ref _, _, I.lnew (t' := s.toks) (rel.rep k.toNat) sz, rfl, q _ (Nat.ne_of_gt I.big) I.fresh⟩
/-! ### class methods, a class called by a local name -/
section
variable {X : Cx} {CX : CXT} {k : Nat} {C p g f : Addr} {fd : FuncData} {ps : List Str} {mc : Value} {sp : Sp} {E : XK} {o e : Expr} {es : List Expr} {m : Str} {pos apos : Pos} {ta : TE} {t : TA} {pl : Sem Bool}
theorem pe_cmethF (he : PE X o ta) (r : ClX.CRead X.K C mc) (c : ClX.CMet X.K C mc m p g) (F : FnOk X.prog X.w X.K X.mg X.base CX k g fd ps sp) (hr : Room k X.A) (hb : Binds X.K fd ps []) (hx : Passes CX X E) (ha : PA X (e :: es) t)
    (hst : starEach (e :: es) X.env = (false, eval e X.env) :: starEach es X.env := by rfl) (hpl : (backTo pos (starEach es X.env)).any (·.1) = false := by rfl)
    (ht : eval (.Call (.Attribute o m apos) (e :: es) [] pos) X.env = (do
      let ov ← eval o X.env
      standAt apos.atName
      let (f, first) ← holding [ov] (getMethod ov m pl)
      callWith pos f first (backTo pos (starEach (e :: es) X.env)) (backToKw pos (keywordEach [] X.env))) := by rfl) :
    PE X (.Call (.Attribute o m apos) (e :: es) [] pos) (ClX.tCMeth C (fun vs H Q E => sp (vs ++ []) H Q E) E ta t) :=
  ClX.pe_cmeth (pl := pl) he r c (F.raw hb .nil) hr hx ha hst hpl ht
def tMakeL (C : Addr) (sp : Sp) (E : XK) (ta : TE) (t : TA) : TE := fun σ H Q => ta σ H fun v H1 => v = .ref C ∧ tMake C sp [] E t σ H1 Q
theorem pe_makeL {x : Str} {p2 : Pos} (hx' : PE X (.Name x p2) ta) (M : Mk X.K C f) (F : FnOk X.prog X.w X.K X.mg X.base CX k f fd ps sp) (hr : Room (k + 1) X.A) (hb : Binds X.K fd ps []) (hx : Passes CX X E)
    (ha : PA X (e :: es) t) (he : starEach (e :: es) X.env = (false, eval e X.env) :: starEach es X.env := by rfl) (hpl : (backTo pos (starEach es X.env)).any (·.1) = false := by rfl) :
    PE X (.Call (.Name x p2) (e :: es) [] pos) (tMakeL C sp E ta t) := by
  refine ⟨fun pins s σ H Q I h => ?_⟩
  refine wpAny_Call_Name_kw (thn (hx'.run pins s σ H _ I h) fun u s1 z => ?_)
  obtain ⟨v, H1, I1, rx, ev, q⟩ := z
  subst ev
  obtain rfl : u = Value.ref C := rx
  refine PySem.W.callWith_K (h₀ := X.base) I.ok.mod.kin M.kp (thn (ha.run pos pins s1 σ H1 _ I1 q) fun us s2 ⟨vs, H2, I2, r, q2⟩ => ⟨I2.kIn, ?_⟩) he hpl
  exact run_make M F hr hb .nil hx I2 r q2
end
/-! ### a text repeated -/
theorem op_repS {X : Cx} : OpR X (binaryOp .Mult) (fun x y H Q => ∃ (a : Str) (i : Int), x = .str a ∧ y = .int i ∧ PySem.MulOk a i ∧ Q (.str (Txt.mul a i)) H) := by
  intro pins s σ H x y v u Q I rx ry h
  obtain ⟨a, i, rfl, rfl, ok, q⟩ := h
  obtain ⟨t, rfl⟩ := rx
  obtain ⟨t2, rfl⟩ := ry
  exact PySem.SB.mul ok fun t' k => ⟨.str _, H, I.tok _, ⟨_, rfl⟩, q⟩
theorem nines : ∀ k ∈ List.range 18, 1 ≤ k → PySem.intText? (Txt.mul "9" ((k : Nat) : Int)) = some (10 ^ k - 1) ∧ (Txt.mul "9" ((k : Nat) : Int)).length ≤ 640 := by decide +kernel
theorem nine {n : Int} (h1 : 1 ≤ n) (h2 : n ≤ 17) : PySem.intText? (Txt.mul "9" n) = some (10 ^ n.toNat - 1) ∧ (Txt.mul "9" n).length ≤ 640 := by
  obtain ⟨k, rfl⟩ := Int.eq_ofNat_of_zero_le (show 0 ≤ n by omega)
  exact nines k (List.mem_range.mpr (by omega)) (by omega)
theorem nine_ok {n : Int} (h1 : 1 ≤ n) (h2 : n ≤ 17) : PySem.MulOk "9" n := mulOk_of 16 1048576 (by decide +kernel) (by omega) (by omega) (by decide) (by decide)
/-! ### an except suite that raises from None: classes in a tuple -/
section
variable {X : Cx} {CX : CXT} {x : Str} {e : Expr} {es : List Expr} {ta : TA} {p pos : Pos}
theorem passN : Passes (L2N.CX X.prog X.w) X E0 := fun _ _ _ _ _ _ _ h => by
  obtain ⟨_, _, _, _, _, _, _, _, _, _, _, _, z⟩ := h
  exact z.elim
theorem pmkN_oex {C fI : Addr} {k : Nat} {fd : FuncData} {ps : List Str} {sp : Sp} {ds : List Value} {dvs : List V} (T : OexC X.K C) (iC : PySem.W.findIn X.K (.ref C) "__init__" = some (some (.ref fI))) (tI : PySem.W.typeIn X.K (.ref fI) = some (.type "function"))
    (F1 : FnOk X.prog X.w X.K X.mg X.base CX k fI fd ps sp) (hr : Room (k + 1) X.A) (hb : Binds X.K fd ps ds) (hd : Vals dvs ds) (hx : Passes CX X (fun _ _ _ => False)) (hg : Gl X x) (hm : X.mg x = some (.ref C)) (ha : PA X (e :: es) ta)
    (hdb : (x == ("__debug__" : Str)) = false := by decide) (he : starEach (e :: es) X.env = (false, eval e X.env) :: starEach es X.env := by rfl) (hpl : (backTo pos (starEach es X.env)).any (·.1) = false := by rfl) :
    L2N.PMk X (.Call (.Name x p) (e :: es) [] pos) (tMkO C sp dvs ta) := by
  intro pins s σ H Q I h
  obtain ⟨nm, q, N, bs, bm, sn, sub, ab, col, dd, k0, k1, k2, k3, k5, hC, hbm⟩ := T.cls
  refine wpAny_Call_Name_kw (ld_glob I hg hm ?_ hdb)
  refine PySem.W.callWith_K (h₀ := X.base) I.ok.mod.kin T.kC (thn (ha.run pos pins s σ H _ I h) fun us s1 ⟨vs, H1, I1, r1, hz, q1⟩ => ⟨I1.kIn, ?_⟩) he hpl
  show wpAny _ _ (call (.ref C) us) _ _ _
  obtain ⟨hp, g, dr, tk, os⟩ := s1
  have more : hp.objs.size ≤ hp.objs.size + 1 := Nat.le_succ _
  have hn : H1 (hp.objs.size + 1) = none := I1.hok.fresh more
  have hq := q1 (hp.objs.size + 1) hn
  have kk : ∀ b o, hp.get? b = some o → ((hp.push (PySem.W.kdv_tup us)).push (PySem.HandSPX.excO C hp.objs.size)).get? b = some o := fun b o e => Heap.get?_push_of_some _ (Heap.get?_push_of_some _ e)
  have there : ((hp.push (PySem.W.kdv_tup us)).push (PySem.HandSPX.excO C hp.objs.size)).get? (hp.objs.size + 1) = some (PySem.HandSPX.excO C hp.objs.size) := by heap_get
  have I2 := I1.laid (t' := tk) (a := hp.objs.size + 1) (o := exo (hp.objs.size + 1) C none) kk more (exo_ok there)
  have r2 : Vals (V.ref (hp.objs.size + 1) :: (vs ++ dvs)) (Value.ref (hp.objs.size + 1) :: (us ++ ds)) := .cons rfl (r1.append hd)
  have hl : (Value.ref (hp.objs.size + 1) :: us ++ ds).length = ps.length := r2.length.symm.trans (F1.len _ _ _ _ hq)
  have few : us.length ≤ sizeLine := by
    rw [← Paired.length r1, sizeLine_eq]
    omega
  refine wpAny_call (PySem.HandSPX.call_own F.excBase_ValueError (fun Y => PySem.HandSPX.refsVE_contains Y bm hbm) (I1.kIn _ _ hC) (PySem.W.looks_findIn I1.kIn iC) (fun self => PySem.W.bind_fn I1.kIn self tI) few
    (codeAny_mono (F1.run _ X.stack _ _ ⟨Value.ref (hp.objs.size + 1) :: us, []⟩ (Value.ref (hp.objs.size + 1) :: (us ++ ds)) _ _ (fun _ _ _ => False) (hr.make C us []) (I2.env0.make C us []) (hb _ (Value.ref (hp.objs.size + 1) :: us) I2.kIn hl) r2 hq) fun r s' z => ?_))
  match r, z with
  | .error er, z => exact hx pins σ _ _ er s' I2 z
  | .ok .next, z => exact z.elim
  | .ok .brk, z => exact z.elim
  | .ok .cont, z => exact z.elim
  | .ok (.ret u), z =>
    obtain ⟨v, H2, os2, bare2, un2, hok2, rv, ev, d, fs, ea, ed, hd1, q2⟩ := z
    subst ev
    obtain ⟨h2, g2, d2, t2, os'⟩ := s'
    obtain ⟨t0, G, J, kG, ge, hoe, na⟩ := mk_end0 (d2 := d2) (t2 := t2) I1 more kk un2 hok2 os2 bare2 ea ed hd1
    exact ⟨rv, ⟨hp.objs.size + 1, _, _, ⟨G, g2, d2, t2, os'⟩, _, .ref C, some d, rfl, J, kG, ge, hoe, ⟨rfl, rfl, fun vs hv => by cases hv; rfl⟩, rfl, rfl, na, rfl, bare2, raises_own T.exC T.tyC, q2⟩⟩
end
section
variable {P : Program} {w : World} {K : PySem.W.Frag} {mg : Str → Option Value} {base : Heap}
theorem Fun_okN {x qual : Str} {st : Stmt} {f : Addr} {fd : FuncData} {N ps : List Str} {k : Nat} {sp : Sp} (F : Fun K x qual st f fd) (S : FnScope N ps (defScope st)) (len : ∀ vs H Q E, sp vs H Q E → vs.length = ps.length)
    (run : ∀ (cdv : Value) (A : Around) (outer : List Env) (s : Shared) (H : Hp) (vs : List V) (Q : VK) (E : XK), Room k (A.deeper (envOfC qual (defScope st) s.heap.objs.size f cdv)) → sp vs H Q E →
      ∃ t, PSs (cxOf (L2N.CX P w) P w K mg base N qual (defScope st) f cdv A outer s H E) (defBody st) t ∧ t { nx := fun _ H' => Q .non H', rt := Q } (L2.start N vs) H) : FnOk P w K mg base (L2N.CX P w) (k + 1) f fd ps sp := by
  obtain ⟨oc, od, kV, doc, pm, an, cdv, ct, osl, rfl, lk, hcd⟩ := F.ex
  exact fn_of lk hcd S len fun A outer s H vs Q E hr q => run cdv A outer s H vs Q E hr q
theorem Fun_okH {CX : CXT} {x qual : Str} {st : Stmt} {f : Addr} {fd : FuncData} {N ps : List Str} {k : Nat} {sp : Sp} (F : Fun K x qual st f fd) (S : FnScope N ps (defScope st)) (len : ∀ vs H Q E, sp vs H Q E → vs.length = ps.length)
    (run : ∀ (cdv : Value) (A : Around) (outer : List Env) (s : Shared) (H : Hp) (vs : List V) (Q : VK) (E : XK) (p : Addr × Obj), L2H.Hot1 A p → L2H.RoomH k (A.deeper (envOfC qual (defScope st) s.heap.objs.size f cdv)) → sp vs H Q E →
      ∃ t, PSs (L2H.cxH CX P w K mg base N qual (defScope st) f cdv A outer s H E p) (defBody st) t ∧ t { nx := fun _ H' => Q .non H', rt := Q } (L2.start N vs) H) : L2H.FnH P w K mg base CX (k + 1) f fd ps sp := by
  obtain ⟨oc, od, kV, doc, pm, an, cdv, ct, osl, rfl, lk, hcd⟩ := F.ex
  exact L2H.fn_ofH lk hcd S len fun A outer s H vs Q E p hot hr q => run cdv A outer s H vs Q E p hot hr q
end
/-! calls in a try -/
section
variable {X : Cx} {CX : CXT} {k : Nat} {C p g f : Addr} {fd : FuncData} {ps : List Str} {mc : Value} {sp : Sp} {E : L2.St → XK} {o e : Expr} {es : List Expr} {m : Str} {pos apos : Pos} {ta : TE} {t : TA} {pl : Sem Bool}
def tCMethX (C : Addr) (sp : Sp) (E : L2.St → XK) (ta : TE) (t : TA) : TE := fun σ H Q => ta σ H fun x H1 => x = .ref C ∧ t σ H1 fun vs H2 => sp (.ref C :: vs) H2 Q (E σ)
theorem pe_cmethX (he : PE X o ta) (r : ClX.CRead X.K C mc) (c : ClX.CMet X.K C mc m p g) (F : FnOk X.prog X.w X.K X.mg X.base CX k g fd ps sp) (hr : Room k X.A) (hb : Binds X.K fd ps []) (hx : ∀ σ, PassesAt CX X σ (E σ)) (ha : PA X (e :: es) t)
    (hst : starEach (e :: es) X.env = (false, eval e X.env) :: starEach es X.env := by rfl) (hpl : (backTo pos (starEach es X.env)).any (·.1) = false := by rfl)
    (ht : eval (.Call (.Attribute o m apos) (e :: es) [] pos) X.env = (do
      let ov ← eval o X.env
      standAt apos.atName
      let (f, first) ← holding [ov] (getMethod ov m pl)
      callWith pos f first (backTo pos (starEach (e :: es) X.env)) (backToKw pos (keywordEach [] X.env))) := by rfl) :
    PE X (.Call (.Attribute o m apos) (e :: es) [] pos) (tCMethX C sp E ta t) := by
  constructor
  intro pins s σ H Q I h
  refine PySem.W.methodCall_KW (pl := pl) (thn (he.run pins s σ H _ I h) fun u s1 z => ?_) ht
  obtain ⟨x, H1, I1, rx, ex, q⟩ := z
  subst ex
  obtain rfl : u = Value.ref C := rx
  refine ClX.getmethcm_ok I1 r c fun s2 I2 => ?_
  refine ClX.callwith_cm I2 (ClX.base_none I1 (Nat.le_refl _)) c.fi (thn (ha.run pos _ s2 σ H1 _ I2 q) fun us s3 z => ?_) hst hpl
  obtain ⟨vs, H2, I3, r3, q3⟩ := z
  have at3 := ClX.pin_at I3
  refine ⟨⟨at3, I3.kIn⟩, ?_⟩
  refine thn (Q := EP X ((s1.heap.objs.size, PySem.W.methodObj (.ref g) (.ref C)) :: pins) σ Q) (wpAny_call (PySem.W.method_call at3 ?_)) fun _ _ y => ClX.unpinE y
  have l3 : (Value.ref C :: us).length = ps.length := by
    rw [← Paired.length (show Vals (V.ref C :: vs) (Value.ref C :: us) from .cons rfl r3)]
    exact F.len _ _ _ _ q3
  have b3 := hb s3 (Value.ref C :: us) I3.kIn (by rw [List.append_nil]; exact l3)
  rw [List.append_nil] at b3
  refine codeAny_mono (F.run X.A X.stack s3 H2 ⟨Value.ref C :: us, []⟩ (Value.ref C :: us) (V.ref C :: vs) Q (E σ) hr I3.env0 b3 (.cons rfl r3) q3) fun r s' z => ?_
  match r, z with
  | .error er, z => exact hx σ _ _ _ er s' I3 z
  | .ok (.ret _), z => exact I3.after z
  | .ok .next, z => exact z.elim
  | .ok .brk, z => exact z.elim
  | .ok .cont, z => exact z.elim
def tMakeLX (C : Addr) (sp : Sp) (E : L2.St → XK) (ta : TE) (t : TA) : TE := fun σ H Q => ta σ H fun v H1 => v = .ref C ∧ tMake C sp [] (E σ) t σ H1 Q
theorem pe_makeLX {x : Str} {p2 : Pos} (hx' : PE X (.Name x p2) ta) (M : Mk X.K C f) (F : FnOk X.prog X.w X.K X.mg X.base CX k f fd ps sp) (hr : Room (k + 1) X.A) (hb : Binds X.K fd ps []) (hx : ∀ σ, PassesAt CX X σ (E σ))
    (ha : PA X (e :: es) t) (he : starEach (e :: es) X.env = (false, eval e X.env) :: starEach es X.env := by rfl) (hpl : (backTo pos (starEach es X.env)).any (·.1) = false := by rfl) :
    PE X (.Call (.Name x p2) (e :: es) [] pos) (tMakeLX C sp E ta t) := by
  constructor
  intro pins s σ H Q I h
  refine wpAny_Call_Name_kw (thn (hx'.run pins s σ H _ I h) fun u s1 z => ?_)
  obtain ⟨v, H0, I0, rx, ev, h0⟩ := z
  subst ev
  obtain rfl : u = Value.ref C := rx
  refine PySem.W.callWith_K (h₀ := X.base) I0.ok.mod.kin M.kp (thn (ha.run pos pins s1 σ H0 _ I0 h0) fun us s1 z => ?_) he hpl
  obtain ⟨vs, H1, J, r, q0⟩ := z
  have q : ∀ x dx, H1 x = none → H1 dx = none → dx ≠ x → sp (.ref x :: (vs ++ [])) (upd (upd H1 dx (.own x)) x (.ins C dx [])) (fun v H2 => v = .non ∧ Q (.ref x) H2) (E σ) := q0
  refine ⟨J.kIn, ?_⟩
  have hq := q (s1.heap.objs.size + 1) s1.heap.objs.size (J.hok.fresh (Nat.le_succ _)) (J.hok.fresh (Nat.le_refl _)) (Nat.ne_of_lt (Nat.lt_succ_self _))
  have I2 := Inv.made (C := C) J
  have r2 : Vals (V.ref (s1.heap.objs.size + 1) :: (vs ++ [])) (Value.ref (s1.heap.objs.size + 1) :: (us ++ [])) := .cons rfl (r.append .nil)
  have hl : (Value.ref (s1.heap.objs.size + 1) :: us ++ []).length = ps.length := r2.length.symm.trans (F.len _ _ _ _ hq)
  refine wpAny_call (make_map (f := f) J.kIn M.makes M.init (beq_iff_eq.mp M.fn) (codeAny_mono (F.run _ X.stack _ _ ⟨Value.ref (s1.heap.objs.size + 1) :: us, []⟩ (Value.ref (s1.heap.objs.size + 1) :: (us ++ [])) _ _ (E σ) (hr.make C us [])
    (I2.env0.make C us []) (by have z := hb _ (Value.ref (s1.heap.objs.size + 1) :: us) I2.kIn hl; rw [List.append_nil] at z ⊢; exact z) r2 hq) fun r s' z => ?_))
  match r, z with
  | .error e, z => exact hx σ pins _ _ e s' I2 z
  | .ok (.ret _), z =>
    obtain ⟨v, H', I3, rv, ev, q3⟩ := I2.after z
    subst ev
    exact ⟨rv, ⟨V.ref (s1.heap.objs.size + 1), H', I3, rfl, q3⟩⟩
  | .ok .next, z => exact z.elim
  | .ok .brk, z => exact z.elim
  | .ok .cont, z => exact z.elim
end
theorem flyZ_keeps {B h h' : Heap} {l : List Env} {e : Addr} {Z : Obj → Prop} (R : HandSPX.FlyingZ B l e Z h) (k : ∀ b o, h.get? b = some o → h'.get? b = some o) : HandSPX.FlyingZ B l e Z h' := by
  obtain ⟨f1, f2, f3, oe, ws, T, oT, ts, he, hz, hd, v1, hn, hne, hT, hdT, v3⟩ := R
  exact ⟨fun b o q => k b o (f1 b o q), f2, f3.of_keeps fun b o q _ => ⟨o, k b o q, rfl⟩, oe, ws, T, oT, ts, k _ _ he, hz, hd, v1, hn, hne, k _ _ hT, hdT, v3⟩
/-- what a try wishes of an error whose class one of two names -/
def wTwo (K : PySem.W.Frag) (c1 c2 : Value) (ts : Addr → Value → Option Addr → TS) (D : Ends) : WX := fun cls d σ H => PySem.W.exmAny K cls [c1, c2] = some true ∧ ∀ a, H a = none → ts a cls d D σ H
section
variable {X : Cx} {x y : Str} {c1 c2 : Addr} {body suite : List Stmt} {b₀ : Stmt} {np np2 tpos pos pos' : Pos} {tk : Nat} {tb : WX → TS} {ts : Addr → Value → Option Addr → TS} {Wout : WX}
theorem ps_try_two (hs : X.stack = X.env :: X.outer) (hf : X.env.frame = some X.env.locals) (gx : Gl X x) (gy : Gl X y) (mx : X.mg x = some (.ref c1)) (my : X.mg y = some (.ref c2)) (dx : (x == ("__debug__" : Str)) = false) (dy : (y == ("__debug__" : Str)) = false)
    (hpa : ∀ hd : Option Value, PassesOwnAt (model X.prog X.w) (X.A.mark hd) X.A X.env X.xe) (tko : L2.Takes X Wout)
    (hb : ∀ (W : WX) (pn : List (Addr × Obj)) (xe : Value → Shared → Prop), L2N.Takes (X.tr pn xe) W → PSs (X.tr pn xe) body (tb W))
    (hsu : ∀ (a : Addr) (oe : Obj) (cls : Value) (d : Option Addr) (pn : List (Addr × Obj)), L2N.Zn cls d oe → (∃ vs, oe.data = .fields vs) → L2.Takes (L2H.suiteX X a ((a, oe) :: pn)) Wout → L2H.HotC (L2H.suiteX X a ((a, oe) :: pn)) →
      PSs (L2H.suiteX X a ((a, oe) :: pn)) (b₀ :: suite) (ts a cls d)) :
    PS X (.Try body [.ExceptHandler (some (.Tuple [.Name x np, .Name y np2] tk tpos)) none (b₀ :: suite) pos'] [] [] pos) (fun D σ H => tb (wTwo X.K (.ref c1) (.ref c2) ts D) D σ H) := by
  constructor
  intro pins s σ H D I h
  have ok := I.ok
  have hfr : X.A.frames = some (X.env :: X.outer) := ok.frames.trans (congrArg some hs)
  refine wpAny_Try_except ?_
  refine wpAny_mono ((hb (wTwo X.K (.ref c1) (.ref c2) ts D) (X.pn ++ pins) _ (fun u s' xx => ?_)).run [] s σ H _ (I.toTry _) h) (fun fl s1 z => ?_) (fun e s1 he => he)
  · obtain ⟨a, B, sI, pins', σ', H', cls, d, eu, J', nb, up, sky, na, os, ag, hyes, hgo⟩ := xx
    subst eu
    have J : Inv X pins σ' H' sI := J'.ofTry ok
    have air : Sky B (X.env :: X.outer) a (L2N.Zn cls d) X.env.locals s'.heap := hs ▸ sky
    refine L2N.Sky.land L2N.Zn.steady hfr hf air fun h1 fly1 up1 => ?_
    have J1 : Inv X pins σ' H' { s' with heap := h1 } := J.landed nb fly1.1 (up.trans up1) os ag
    obtain ⟨o1, v1, at1, z1, f1⟩ := fly1.there
    have off : a ∉ frs (X.env :: X.outer) := fun hm => by
      obtain ⟨_, o', e', no⟩ := fly1.2.2.1.mem hm
      rw [at1] at e'
      cases e'
      exact no _ f1
    have offL : a ≠ X.env.locals := fun z => off (List.mem_filterMap.mpr ⟨X.env, List.mem_cons_self, hf.trans (congrArg some z.symm)⟩)
    have offF : a ∉ X.fs := fun hm => by
      obtain ⟨e, m, q⟩ := List.mem_filterMap.mp hm
      exact off (List.mem_filterMap.mpr ⟨e, List.mem_cons_of_mem _ m, q⟩)
    have S1 := J1.suite at1 f1 na offL offF
    have cl : PySem.W.Looks (model X.prog X.w) h1 (typeOf (.ref a)) cls := fun A Q E s k q => wpAny_typeOf_ref (k _ _ at1) (z1.1.symm ▸ q)
    have kp : ∀ q o, h1.get? q = some o → (h1.push { cls := .type "tuple", data := .seq [Value.ref c1, Value.ref c2].toArray }).get? q = some o := fun _ _ z => Heap.get?_push_of_some _ z
    have fly3 := flyZ_keeps fly1 kp
    have up3 := up1.trans (Heap.UpToSlots.of_keeps kp)
    refine wpAny_handleBy_cons (codeAny_handlers_test ?_) (fun q => nomatch q)
    refine wpAny_Tuple ?_
    refine wpAny_items_cons (ld_glob (X := X.suite a ((a, o1) :: (X.pn ++ pins))) S1 gx mx ?_ dx)
    refine wpAny_items_cons (ld_glob (X := X.suite a ((a, o1) :: (X.pn ++ pins))) S1 gy my ?_ dy)
    refine wpAny_items_nil ⟨by size_fits, ?_⟩
    refine (PySem.W.exm_tup2 (J1.kIn.keeps kp) (cl.keeps kp) (Heap.get?_push_size h1 rfl) hyes).here ?_
    refine codeAny_handlers_suite ?_
    refine HandSPX.lands_againZ fly3 fun h4 fl4 up4 => ?_
    have J4 : Inv X pins σ' H' { s' with heap := h4 } := J.landed nb fl4.1 ((up.trans up3).trans up4) os ag
    obtain ⟨oe4, vs4, he4, hz4, hd4⟩ := fl4.there
    have S4 := J4.suite he4 hd4 na offL offF
    have tkS : L2.Takes (L2H.suiteX X a ((a, oe4) :: (X.pn ++ pins))) Wout := fun u2 s2 x2 => by
      obtain ⟨a2, B2, sI2, pn2, σ2, H2, cls2, d2, e2, I2, nb2, up2, sky2, na2, os2, ag2, w2⟩ := x2
      exact tko u2 s2 ⟨a2, B2, sI2, pins, σ2, H2, cls2, d2, e2, L2H.unsuiteX I2 ok, nb2, up2, sky2, na2, os2, ag2, w2⟩
    have hot : L2H.HotC (L2H.suiteX X a ((a, oe4) :: (X.pn ++ pins))) := ⟨(a, oe4), ⟨rfl, vs4, hd4, hz4.2.2 vs4 hd4⟩, List.mem_cons_self⟩
    refine wpAny_mono ((hsu a oe4 cls d (X.pn ++ pins) hz4 ⟨_, hd4⟩ tkS hot).run [] _ _ H' _ (L2H.suiteX_of S4) (hgo a na)) (fun f s6 q => ?_) (fun e6 s6 z => hpa (some (.ref a)) e6 s6 z)
    match f, q with
    | .next, ⟨σ6, H6, S6, q6⟩ => exact ⟨_, _, L2H.unsuiteX S6 ok, q6⟩
    | .brk, ⟨σ6, H6, S6, q6⟩ => exact ⟨_, _, L2H.unsuiteX S6 ok, q6⟩
    | .cont, ⟨σ6, H6, S6, q6⟩ => exact ⟨_, _, L2H.unsuiteX S6 ok, q6⟩
    | .ret u, ⟨v6, σ6, H6, S6, r6, q6⟩ => exact ⟨_, _, _, L2H.unsuiteX S6 ok, r6, q6⟩
  · match fl, z with
    | .next, ⟨σ', H', J', q⟩ => exact wpAny_execs_nil ⟨σ', H', J'.ofTry ok, q⟩
    | .brk, ⟨σ', H', J', q⟩ => exact ⟨σ', H', J'.ofTry ok, q⟩
    | .cont, ⟨σ', H', J', q⟩ => exact ⟨σ', H', J'.ofTry ok, q⟩
    | .ret _, ⟨v, σ', H', J', r, q⟩ => exact ⟨v, σ', H', J'.ofTry ok, r, q⟩
end
/-! ### texts: numbers and kinds of them -/
def cl (x : Str) : List Nat := x.cps.toList
def dig (c : Nat) : Bool := decide (48 ≤ c) && decide (c ≤ 57)
def isNeg (l : List Nat) : Bool := l.head? == some 45
def fig (l : List Nat) : List Nat := if isNeg l = true then l.tail else l
def numOk (l : List Nat) : Bool := (fig l).all dig && !(fig l).isEmpty && decide ((fig l).length ≤ 18) && ((fig l).head? != some 48 || l == [48])
def num (l : List Nat) : Option Int := if numOk l = true then some (if isNeg l = true then -(NumText.digitsVal (fig l) : Int) else (NumText.digitsVal (fig l) : Int)) else none
theorem num_mem {l : List Nat} {n : Int} (h : num l = some n) {c : Nat} (hc : c ∈ l) : c = 45 ∨ (48 ≤ c ∧ c ≤ 57) := by
  have ok : numOk l = true := by
    cases q : numOk l with
    | true => rfl
    | false =>
      unfold num at h
      rw [q, if_neg (by decide)] at h
      cases h
  have z : (fig l).all dig = true := by
    unfold numOk at ok
    simp only [Bool.and_eq_true] at ok
    exact ok.1.1.1
  have d : ∀ c ∈ fig l, 48 ≤ c ∧ c ≤ 57 := fun c m => by
    have := List.all_eq_true.mp z c m
    simpa [dig] using this
  unfold fig at d
  cases l with
  | nil => cases hc
  | cons a t =>
    by_cases q : isNeg (a :: t) = true
    · rw [if_pos q] at d
      rcases List.mem_cons.mp hc with rfl | m
      · left
        simpa [isNeg] using q
      · exact .inr (d c m)
    · rw [if_neg q] at d
      exact .inr (d c hc)
theorem num_no {l : List Nat} {c : Nat} (hc : c ∈ l) (h1 : c ≠ 45) (h2 : ¬(48 ≤ c ∧ c ≤ 57)) : num l = none := by
  cases h : num l with
  | none => rfl
  | some n => rcases num_mem h hc with z | z <;> contradiction
theorem num_nil : num [] = none := by decide
theorem num_int {x : Str} {n : Int} (h : num (cl x) = some n) : intText? x = some n := by
  have ok : numOk (cl x) = true := by
    cases q : numOk (cl x) with
    | true => rfl
    | false =>
      unfold num at h
      rw [q, if_neg (by decide)] at h
      cases h
  unfold num at h
  rw [if_pos ok] at h
  have hm : ∀ c ∈ cl x, c = 45 ∨ 48 ≤ c ∧ c ≤ 57 := fun c hc => num_mem (n := n) (by unfold num; rw [if_pos ok]; exact h) hc
  unfold numOk at ok
  simp only [Bool.and_eq_true, decide_eq_true_eq] at ok
  obtain ⟨⟨⟨o1, o2⟩, o3⟩, o4⟩ := ok
  have d : NumText.AllDigits (fig (cl x)) := fun c m => by
    have := List.all_eq_true.mp o1 c m
    simpa [dig] using this
  have ne : fig (cl x) ≠ [] := fun z => by rw [z] at o2; cases o2
  have len : x.length ≤ 4300 := by
    have e : x.length = (cl x).length := by simp [Str.length, cl]
    rw [e]
    by_cases q : isNeg (cl x) = true
    · rw [fig, if_pos q, List.length_tail] at o3
      omega
    · rw [fig, if_neg q] at o3
      omega
  by_cases q : isNeg (cl x) = true
  · rw [if_pos q] at h
    obtain ⟨c, r, e⟩ : ∃ c r, cl x = c :: r := by
      cases z : cl x with
      | nil => rw [z] at q; cases q
      | cons c r => exact ⟨c, r, rfl⟩
    have c45 : c = 45 := by
      rw [e] at q
      simpa [isNeg] using q
    have ef : fig (cl x) = r := by rw [fig, if_pos q, e]; rfl
    rw [ef] at h d ne
    rw [← h]
    exact PySem.intText_neg (by rw [← c45]; exact e) d ne len
  · rw [if_neg q] at h
    have ef : fig (cl x) = cl x := by rw [fig, if_neg q]
    rw [ef] at h d ne
    rw [← h]
    exact PySem.intText_digits d ne len
theorem cl_app (x y : Str) : cl (x ++ y) = cl x ++ cl y := by
  show (x.cps ++ y.cps).toList = _
  simp [cl]
theorem cl_inj {x y : Str} (h : cl x = cl y) : x = y := by
  cases x; cases y
  simp only [cl] at h
  rw [Array.toList_inj] at h
  rw [h]
theorem cl_mk (l : List Nat) : cl ⟨l.toArray⟩ = l := by simp [cl]
theorem mk_cl (x : Str) : (⟨(cl x).toArray⟩ : Str) = x := cl_inj (cl_mk _)
theorem cl_len (x : Str) : x.length = (cl x).length := by simp [Str.length, cl]
theorem cl_sub (x : Str) (i j : Nat) : cl (Builtin.Str.strSub x i j) = ((cl x).drop i).take (j - i) := by
  simp [cl, Builtin.Str.strSub, List.extract_eq_take_drop]
theorem at_eq {x y : Str} {i : Nat} : StrLaws.At x y x.length i ↔ (i + y.length ≤ x.length ∧ ((cl x).drop i).take y.length = cl y) := by
  unfold StrLaws.At Builtin.Str.subAt
  have e : (x.cps.extract i (i + y.length) == y.cps) = true ↔ ((cl x).drop i).take y.length = cl y := by
    rw [beq_iff_eq, ← Array.toList_inj]
    simp [cl, List.extract_eq_take_drop]
  rw [e]
theorem at_get {x y : Str} {i j : Nat} {c : Nat} (h : StrLaws.At x y x.length i) (hj : (cl y)[j]? = some c) : (cl x)[i + j]? = some c := by
  obtain ⟨_, h⟩ := at_eq.mp h
  have jl : j < y.length := by
    rw [cl_len]
    exact (List.getElem?_eq_some_iff.mp hj).1
  rw [← h, List.getElem?_take, if_pos jl, List.getElem?_drop] at hj
  exact hj
theorem cl_dots : cl ".." = [46, 46] := by decide +kernel
theorem cl_blank : cl " " = [32] := by decide +kernel
theorem at_dots {x : Str} {a b : List Nat} (h : cl x = a ++ 46 :: 46 :: b) (ha : 46 ∉ a) (hb : 46 ∉ b) {i : Nat} : StrLaws.At x ".." x.length i ↔ i = a.length := by
  constructor
  · intro z
    have g0 := at_get (j := 0) (c := 46) z (by rw [cl_dots]; rfl)
    have g1 := at_get (j := 1) (c := 46) z (by rw [cl_dots]; rfl)
    rw [h] at g0 g1
    rcases Nat.lt_trichotomy i a.length with l | l | l
    · rw [Nat.add_zero, List.getElem?_append_left l] at g0
      exact absurd (List.mem_of_getElem? g0) ha
    · exact l
    · exfalso
      rw [List.getElem?_append_right (by omega)] at g1
      obtain ⟨k, e⟩ : ∃ k, i + 1 - a.length = k + 2 := ⟨i + 1 - a.length - 2, by omega⟩
      rw [e, List.getElem?_cons_succ, List.getElem?_cons_succ] at g1
      exact hb (List.mem_of_getElem? g1)
  · rintro rfl
    refine at_eq.mpr ⟨?_, ?_⟩
    · rw [cl_len, cl_len, h, cl_dots]
      simp
    · rw [h, List.drop_left, cl_len, cl_dots]
      rfl
theorem part_dots {x : Str} {a b : List Nat} (h : cl x = a ++ 46 :: 46 :: b) (ha : 46 ∉ a) (hb : 46 ∉ b) : (Txt.partition x "..").1 = ⟨a.toArray⟩ ∧ (Txt.partition x "..").2.2 = ⟨b.toArray⟩ := by
  rcases partition_whole x ".." with ⟨_, no⟩ | ⟨i, e, z, _⟩
  · exact absurd ((at_dots h ha hb).mpr rfl) (no _)
  · have ei := (at_dots h ha hb).mp z
    rw [e]
    refine ⟨cl_inj ?_, cl_inj ?_⟩
    · show cl (Builtin.Str.strSub x 0 i) = _
      rw [cl_sub, h, ei, List.drop_zero, Nat.sub_zero, List.take_left, cl_mk]
    · show cl (Builtin.Str.strSub x (i + (".." : Str).length) x.length) = _
      rw [cl_sub, cl_len, cl_len, cl_dots, h, ei]
      rw [show a.length + [46, 46].length = (a ++ [46, 46]).length by simp, show a ++ 46 :: 46 :: b = (a ++ [46, 46]) ++ b by simp, List.drop_left, List.take_of_length_le (by simp; omega), cl_mk]
theorem kind1 (x : Str) : 1 ≤ Builtin.Str.strKind x := by
  unfold Builtin.Str.strKind
  split
  · exact Nat.le_refl _
  · split <;> decide
theorem split_dots {x : Str} {a b : List Nat} (h : cl x = a ++ 46 :: 46 :: b) (ha : 46 ∉ a) (hb : 46 ∉ b) : Txt.split x ".." = [⟨a.toArray⟩, ⟨b.toArray⟩] := by
  have two : (".." : Str).length = 2 := by decide +kernel
  have len : ¬ x.length < (".." : Str).length := by
    rw [two, cl_len, h]
    simp
    omega
  have ki : ¬ Builtin.Str.strKind x < Builtin.Str.strKind ".." := by
    have := kind1 x
    have e : Builtin.Str.strKind ".." = 1 := by decide +kernel
    omega
  obtain ⟨f, ch, no⟩ := StrLaws.occ_tight x ".." (by rw [two]; decide)
  have ocs : Builtin.Str.occurrences x ".." 0 x.length (x.length + 1) = [a.length] := by
    revert ch
    generalize Builtin.Str.occurrences x ".." 0 x.length (x.length + 1) = L
    intro ch
    cases L with
    | nil =>
      rw [StrLaws.ChainG.eq_1] at ch
      exact absurd ((at_dots h ha hb).mpr rfl) (no _ (by omega))
    | cons c r =>
      rw [StrLaws.ChainG.eq_2] at ch
      obtain ⟨_, z, _, ch⟩ := ch
      have ec := (at_dots h ha hb).mp z
      cases r with
      | nil => rw [ec]
      | cons d r =>
        rw [StrLaws.ChainG.eq_2] at ch
        obtain ⟨l, z, _⟩ := ch
        have ed := (at_dots h ha hb).mp z
        rw [two] at l
        omega
  unfold Txt.split
  rw [decide_eq_false len, decide_eq_false ki, ocs]
  simp only [Bool.or_self, Bool.false_eq_true, if_false, List.isEmpty_cons]
  rw [StrLaws.partsBetween_eq, StrLaws.partsFrom.eq_2, StrLaws.partsFrom.eq_1, two]
  have e1 : Builtin.Str.strSub x 0 a.length = ⟨a.toArray⟩ := cl_inj (by rw [cl_sub, h, List.drop_zero, Nat.sub_zero, List.take_left, cl_mk])
  have e2 : Builtin.Str.strSub x (a.length + 2) x.length = ⟨b.toArray⟩ := cl_inj (by
    rw [cl_sub, cl_len, h, show a.length + 2 = (a ++ [46, 46]).length by simp, show a ++ 46 :: 46 :: b = (a ++ [46, 46]) ++ b by simp, List.drop_left, List.take_of_length_le (by simp; omega), cl_mk])
  rw [e1, e2]
def pair : Option Int → Option Int → Option (Int × Int)
  | some a, some b => if a ≤ 0 ∧ 0 ≤ b then some (a, b) else none
  | _, _ => none
def pairL (L : List Str) : Option (Int × Int) := match L with
  | [a, b] => pair (num (cl a)) (num (cl b))
  | _ => none
def pairP (x : Str) : Option (Int × Int) := pair (num (cl (Txt.partition x "..").1)) (num (cl (Txt.partition x "..").2.2))
theorem pair_some {a b : Option Int} {v : Int × Int} (h : pair a b = some v) : ∃ m n, a = some m ∧ b = some n := by
  cases a with
  | none => cases b <;> cases h
  | some m => cases b with
    | none => cases h
    | some n => exact ⟨m, n, rfl, rfl⟩
theorem no46 {l : List Nat} {n : Int} (h : num l = some n) : 46 ∉ l := fun m => by
  rcases num_mem h m with z | z <;> omega
theorem pairD (x : Str) : pairL (Txt.split x "..") = pairP x := by
  have fwd : ∀ v, pairP x = some v → pairL (Txt.split x "..") = some v := fun v hv => by
    obtain ⟨m, n, em, en⟩ := pair_some hv
    have s := StrLaws.partition_sum x ".."
    rcases partition_whole x ".." with ⟨e, _⟩ | ⟨i, e, _⟩
    · rw [e] at en
      cases en
    · have ed : (Txt.partition x "..").2.1 = ".." := by rw [e]
      have hx : cl x = cl (Txt.partition x "..").1 ++ 46 :: 46 :: cl (Txt.partition x "..").2.2 := by
        rw [← s, cl_app, cl_app, s, ed, cl_dots]
        simp
      rw [split_dots hx (no46 em) (no46 en), ← hv]
      show pair (num (cl ⟨_⟩)) (num (cl ⟨_⟩)) = _
      rw [cl_mk, cl_mk]
      rfl
  have bwd : ∀ v, pairL (Txt.split x "..") = some v → pairP x = some v := fun v hv => by
    have j := StrLaws.join_split x ".."
    revert hv j
    generalize Txt.split x ".." = L
    intro hv j
    match L, hv, j with
    | [a, b], hv, j =>
      obtain ⟨m, n, em, en⟩ := pair_some hv
      have hx : cl x = cl a ++ 46 :: 46 :: cl b := by
        rw [← j, Str.join.eq_3 _ _ _ (fun z => by cases z), Str.join.eq_2, cl_app, cl_app, cl_dots]
        simp
      obtain ⟨p1, p2⟩ := part_dots hx (no46 em) (no46 en)
      unfold pairP
      rw [p1, p2, cl_mk, cl_mk]
      exact hv
  cases h : pairP x with
  | some v => exact fwd v h
  | none =>
    cases g : pairL (Txt.split x "..") with
    | none => rfl
    | some v => rw [bwd v g] at h; cases h
theorem part_blank {x : Str} {a b : List Nat} (h : cl x = a ++ 32 :: b) (ha : 32 ∉ a) : (Txt.partition x " ").1 = ⟨a.toArray⟩ ∧ (Txt.partition x " ").2.2 = ⟨b.toArray⟩ := by
  have at1 : StrLaws.At x " " x.length a.length := at_eq.mpr ⟨by rw [cl_len, cl_len, h, cl_blank]; simp, by rw [h, List.drop_left, cl_len, cl_blank]; rfl⟩
  rcases partition_whole x " " with ⟨_, no⟩ | ⟨i, e, z, lo⟩
  · exact absurd at1 (no _)
  · have ei : i = a.length := by
      have g0 := at_get (j := 0) (c := 32) z (by rw [cl_blank]; rfl)
      rw [h, Nat.add_zero] at g0
      rcases Nat.lt_trichotomy i a.length with l | l | l
      · rw [List.getElem?_append_left l] at g0
        exact absurd (List.mem_of_getElem? g0) ha
      · exact l
      · exact absurd at1 (lo _ l)
    rw [e]
    refine ⟨cl_inj ?_, cl_inj ?_⟩
    · show cl (Builtin.Str.strSub x 0 i) = _
      rw [cl_sub, h, ei, List.drop_zero, Nat.sub_zero, List.take_left, cl_mk]
    · show cl (Builtin.Str.strSub x (i + (" " : Str).length) x.length) = _
      rw [cl_sub, cl_len, cl_len, cl_blank, h, ei]
      rw [show a.length + [32].length = (a ++ [32]).length by simp, show a ++ 32 :: b = (a ++ [32]) ++ b by simp, List.drop_left, List.take_of_length_le (by simp; omega), cl_mk]
theorem part_none {x y : Str} {c : Nat} (hy : (cl y)[0]? = some c) (h : c ∉ cl x) : Txt.partition x y = (x, Str.empty, Str.empty) := by
  rcases partition_whole x y with ⟨e, _⟩ | ⟨i, _, z, _⟩
  · exact e
  · exact absurd (List.mem_of_getElem? (at_get z hy)) h
def kindOf (w : Str) (n : Int) : Option (Int × Int) :=
  if w = "signed" then (if 1 ≤ n ∧ n ≤ 56 then some (-(2 ^ (n - 1).toNat), 2 ^ (n - 1).toNat - 1) else none)
  else if w = "unsigned" then (if 1 ≤ n ∧ n ≤ 56 then some (0, 2 ^ n.toNat - 1) else none)
  else if w = "digits" then (if 1 ≤ n ∧ n ≤ 17 then some (0, 10 ^ n.toNat - 1) else none)
  else none
def isWord (w : Str) : Prop := w = "signed" ∨ w = "unsigned" ∨ w = "digits"
instance (w : Str) : Decidable (isWord w) := inferInstanceAs (Decidable (_ ∨ _ ∨ _))
/-- the kind of a text, as the program finds it -/
def rdKind (x : Str) : Option (Int × Int) := if isWord (Txt.partition x " ").1 then (num (cl (Txt.partition x " ").2.2)).bind (kindOf (Txt.partition x " ").1) else pairP x
/-- the kind of a text, as the law finds it -/
def lawKind (x : Str) : Option (Int × Int) := match Txt.split x " " with
  | [w, m] => (num (cl m)).bind (kindOf w)
  | [_] => pairL (Txt.split x "..")
  | _ => none
theorem kindOf_no {w : Str} (h : ¬isWord w) (n : Int) : kindOf w n = none := by
  unfold kindOf
  rw [if_neg fun z => h (.inl z), if_neg fun z => h (.inr (.inl z)), if_neg fun z => h (.inr (.inr z))]
theorem bind_no {o : Option Int} {w : Str} (h : ¬isWord w) : o.bind (kindOf w) = none := by
  cases o with
  | none => rfl
  | some n => exact kindOf_no h n
theorem cl_empty : cl Str.empty = [] := rfl
theorem no_word {w : Str} (h : isWord w) : pairP w = none := by
  have d : 46 ∉ cl w := by
    rcases h with rfl | rfl | rfl <;> decide +kernel
  unfold pairP
  rw [part_none (y := "..") (c := 46) (by rw [cl_dots]; rfl) d]
  show pair _ (num (cl Str.empty)) = none
  rw [cl_empty, num_nil]
  cases num (cl w) <;> rfl
theorem no_blank {x : Str} (h : 32 ∈ cl x) : pairP x = none := by
  have s := StrLaws.partition_sum x ".."
  rcases partition_whole x ".." with ⟨e, _⟩ | ⟨i, e, _⟩
  · unfold pairP
    rw [e]
    show pair _ (num (cl Str.empty)) = none
    rw [cl_empty, num_nil]
    cases num (cl x) <;> rfl
  · have ed : (Txt.partition x "..").2.1 = ".." := by rw [e]
    rw [← s, cl_app, cl_app, ed, cl_dots] at h
    simp only [List.mem_append, List.mem_cons, List.not_mem_nil, or_false] at h
    unfold pairP
    rcases h with (h | h) | h
    · rw [num_no h (by decide) (by decide)]
      cases num (cl (Txt.partition x "..").2.2) <;> rfl
    · rcases h with h | h <;> cases h
    · rw [num_no h (by decide) (by decide)]
      cases num (cl (Txt.partition x "..").1) <;> rfl
theorem kinds_eq (x : Str) : lawKind x = rdKind x := by
  have j := StrLaws.join_split x " "
  have fr : ∀ p, p ∈ Txt.split x " " → 32 ∉ cl p := StrLaws.split_free x 32
  have f1 := (fact_split x " ").1
  have hl : lawKind x = match Txt.split x " " with
    | [w, m] => (num (cl m)).bind (kindOf w)
    | [_] => pairL (Txt.split x "..")
    | _ => none := rfl
  rw [hl]
  revert j fr f1
  generalize Txt.split x " " = L
  intro j fr f1
  match L, j, fr, f1 with
  | [w], j, fr, _ =>
    rw [Str.join.eq_2] at j
    subst j
    have no := fr w (List.mem_singleton.mpr rfl)
    have p := part_none (y := " ") (c := 32) (by rw [cl_blank]; rfl) no
    show pairL _ = _
    rw [pairD]
    unfold rdKind
    rw [p]
    by_cases q : isWord w
    · rw [if_pos q, no_word q]
      show _ = (num (cl Str.empty)).bind _
      rw [cl_empty, num_nil]
      rfl
    · rw [if_neg q]
  | [w, m], j, fr, _ =>
    rw [Str.join.eq_3 _ _ _ (fun z => by cases z), Str.join.eq_2] at j
    have hx : cl x = cl w ++ 32 :: cl m := by
      rw [← j, cl_app, cl_app, cl_blank]
      simp
    have nw := fr w List.mem_cons_self
    obtain ⟨p1, p2⟩ := part_blank hx nw
    show (num (cl m)).bind (kindOf w) = _
    unfold rdKind
    rw [p1, p2, mk_cl, mk_cl]
    by_cases q : isWord w
    · rw [if_pos q]
    · rw [if_neg q, bind_no q, no_blank (by rw [hx]; simp)]
  | w :: m :: k :: r, j, fr, _ =>
    rw [Str.join.eq_3 _ _ _ (fun z => by cases z), Str.join.eq_3 _ _ _ (fun z => by cases z)] at j
    have hx : cl x = cl w ++ 32 :: (cl m ++ 32 :: cl (Str.join " " (k :: r))) := by
      rw [← j, cl_app, cl_app, cl_app, cl_app, cl_blank]
      simp
    have nw := fr w List.mem_cons_self
    obtain ⟨p1, p2⟩ := part_blank hx nw
    show none = _
    unfold rdKind
    rw [p1, p2, mk_cl, cl_mk]
    by_cases q : isWord w
    · rw [if_pos q, num_no (c := 32) (by simp) (by decide) (by decide)]
      rfl
    · rw [if_neg q, no_blank (by rw [hx]; simp)]
theorem cl_ofS (s : String) : cl (Str.ofString s) = s.toList.map Char.toNat := signs_ofString s
theorem tl_cl (x : Str) : TL.tl x = cl x := rfl
theorem numL_head (m : Nat) : 1 ≤ m → (TL.numL m).head? ≠ some 48 := by
  induction m using Nat.strongRecOn with
  | _ m ih =>
    intro h
    by_cases q : m < 10
    · rw [TL.numL_lt q]
      simp
      omega
    · have z := ih (m / 10) (by omega) (by omega)
      rw [TL.numL_step (by omega)]
      cases e : TL.numL (m / 10) with
      | nil => exact absurd e (TL.numL_ne _)
      | cons c r =>
        rw [e] at z
        exact z
theorem dig_all {l : List Nat} (h : NumText.AllDigits l) : l.all dig = true := List.all_eq_true.mpr fun c m => by
  have := h c m
  simp [dig, this]
theorem num_nat {m : Nat} (h : m < 10 ^ 18) : num (TL.numL m) = some (m : Int) := by
  have d := TL.numL_digits m
  have ne := TL.numL_ne m
  have len := TL.numL_len (k := 18) (by decide) h
  have neg : isNeg (TL.numL m) = false := by
    unfold isNeg
    cases q : TL.numL m with
    | nil => rfl
    | cons c r =>
      have := d c (by rw [q]; exact List.mem_cons_self)
      simp
      omega
  have hz : ((TL.numL m).head? != some 48 || TL.numL m == [48]) = true := by
    by_cases q : m = 0
    · subst q
      decide
    · rw [show ((TL.numL m).head? != some 48) = true from bne_iff_ne.mpr (numL_head m (by omega))]
      rfl
  have ok : numOk (TL.numL m) = true := by
    unfold numOk fig
    rw [neg, if_neg (by decide), dig_all d, hz, decide_eq_true len]
    cases q : TL.numL m with
    | nil => exact absurd q ne
    | cons c r => rfl
  unfold num
  rw [if_pos ok, neg, if_neg (by decide), fig, neg, if_neg (by decide), TL.numL_val]
theorem num_neg {m : Nat} (h0 : 1 ≤ m) (h : m < 10 ^ 18) : num (45 :: TL.numL m) = some (-(m : Int)) := by
  have d := TL.numL_digits m
  have ne := TL.numL_ne m
  have len := TL.numL_len (k := 18) (by decide) h
  have neg : isNeg (45 :: TL.numL m) = true := rfl
  have ef : fig (45 :: TL.numL m) = TL.numL m := by
    rw [fig, neg, if_pos rfl]
    rfl
  have ok : numOk (45 :: TL.numL m) = true := by
    unfold numOk
    rw [ef, dig_all d, decide_eq_true len, show ((TL.numL m).head? != some 48) = true from bne_iff_ne.mpr (numL_head m h0)]
    cases q : TL.numL m with
    | nil => exact absurd q ne
    | cons c r => rfl
  unfold num
  rw [if_pos ok, neg, if_pos rfl, ef, TL.numL_val]
def tx (n : Int) : Str := Str.ofString (toString n)
theorem num_tx {n : Int} (h : n.natAbs < 10 ^ 18) : num (cl (tx n)) = some n := by
  cases n with
  | ofNat m =>
    have e : cl (tx (Int.ofNat m)) = TL.numL m := TL.tl_num m
    rw [e]
    exact num_nat h
  | negSucc m =>
    have e : cl (tx (Int.negSucc m)) = 45 :: TL.numL (m + 1) := by
      have z := TL.tl_num (m + 1)
      rw [tl_cl, cl_ofS] at z
      unfold tx
      rw [cl_ofS, show toString (Int.negSucc m) = "-" ++ toString (m + 1) from rfl, String.toList_append, List.map_append, ← z]
      rfl
    rw [e, num_neg (m := m + 1) (by omega) h]
    rfl
theorem word_free {w : Str} (h : 46 ∈ cl w) : ¬isWord w := by
  rintro (rfl | rfl | rfl) <;> revert h <;> decide +kernel
theorem rd_tx {lo hi : Int} (h1 : lo ≤ 0) (h2 : 0 ≤ hi) (b1 : lo.natAbs < 10 ^ 18) (b2 : hi.natAbs < 10 ^ 18) {x : Str} (hx : cl x = cl (tx lo) ++ 46 :: 46 :: cl (tx hi)) : rdKind x = some (lo, hi) := by
  have n1 := num_tx b1
  have n2 := num_tx b2
  have no : 32 ∉ cl x := by
    rw [hx]
    simp only [List.mem_append, List.mem_cons]
    rintro (m | m | m | m)
    · rcases num_mem n1 m with z | z <;> omega
    · cases m
    · cases m
    · rcases num_mem n2 m with z | z <;> omega
  have p := part_none (y := " ") (c := 32) (by rw [cl_blank]; rfl) no
  obtain ⟨q1, q2⟩ := part_dots hx (no46 n1) (no46 n2)
  unfold rdKind
  rw [p, if_neg (word_free (by rw [hx]; simp))]
  unfold pairP
  rw [q1, q2, mk_cl, mk_cl, n1, n2]
  exact if_pos ⟨h1, h2⟩
/-! how the two read a number -/
theorem at0 (x y : Str) : Builtin.Str.subAt x y 0 = decide ((cl x).take (cl y).length = cl y) := by
  unfold Builtin.Str.subAt
  rw [Nat.zero_add]
  cases q : (x.cps.extract 0 y.length == y.cps) with
  | true =>
    refine (decide_eq_true ?_).symm
    have z := congrArg Array.toList (eq_of_beq q)
    simpa [cl, List.extract_eq_take_drop, cl_len] using z
  | false =>
    refine (decide_eq_false fun z => ?_).symm
    have e : x.cps.extract 0 y.length = y.cps := by
      rw [← Array.toList_inj]
      simpa [cl, List.extract_eq_take_drop, cl_len] using z
    rw [e] at q
    simp at q
theorem take_one (l : List Nat) (a : Nat) : decide (l.take 1 = [a]) = (l.head? == some a) := by
  cases l with
  | nil => rfl
  | cons c r =>
    by_cases q : c = a
    · subst q
      rw [decide_eq_true (by rfl)]
      simp
    · rw [decide_eq_false (p := List.take 1 (c :: r) = [a]) (fun z => q (List.cons.inj z).1)]
      simp [q]
theorem take1 (l : List Nat) : decide (l.take 1 = [45]) = isNeg l := take_one l 45
theorem cl_dash : cl "-" = [45] := by decide +kernel
theorem cl_zero : cl "0" = [48] := by decide +kernel
theorem fig_prefix (x : Str) : cl (Txt.removeprefix x "-") = fig (cl x) := by
  unfold Txt.removeprefix
  rw [at0, cl_dash, show [45].length = 1 from rfl, take1]
  have one : ("-" : Str).length = 1 := by decide +kernel
  by_cases q : isNeg (cl x) = true
  · have pos : 1 ≤ (cl x).length := by
      cases z : cl x with
      | nil => rw [z] at q; cases q
      | cons c r => simp
    rw [if_pos q, one]
    unfold Txt.affix
    dsimp only
    rw [if_neg (by rw [beq_iff_eq, cl_len]; omega), cl_sub, fig, if_pos q, cl_len, List.take_of_length_le (by simp)]
    exact List.drop_one
  · rw [if_neg q, fig, if_neg q]
    rfl
theorem digit_128 : ∀ c ∈ List.range 128, Unicode.isDigit c = dig c := by decide +kernel
theorem digits_ascii (x : Str) : (Txt.isascii x && Txt.isdigit x) = ((cl x).all dig && !(cl x).isEmpty) := by
  have e1 : Txt.isascii x = (cl x).all fun c => decide (c < 128) := by
    unfold Txt.isascii cl
    rw [Array.all_toList]
  have e2 : Txt.isdigit x = (!(cl x).isEmpty && (cl x).all Unicode.isDigit) := by
    unfold Txt.isdigit
    rw [cl_len, ← Array.all_toList]
    show (_ && (cl x).all _) = _
    cases cl x with
    | nil => rfl
    | cons c r => simp
  rw [e1, e2]
  have z : ∀ l : List Nat, (l.all (fun c => decide (c < 128)) && l.all Unicode.isDigit) = l.all dig := fun l => by
    induction l with
    | nil => rfl
    | cons c r ih =>
      have one : (decide (c < 128) && Unicode.isDigit c) = dig c := by
        by_cases q : c < 128
        · rw [decide_eq_true q, Bool.true_and]
          exact digit_128 c (List.mem_range.mpr q)
        · rw [decide_eq_false q, Bool.false_and]
          unfold dig
          rw [show decide (c ≤ 57) = false from decide_eq_false (by omega), Bool.and_false]
      rw [List.all_cons, List.all_cons, List.all_cons, ← ih, ← one]
      cases decide (c < 128) <;> cases Unicode.isDigit c <;> cases r.all (fun c => decide (c < 128)) <;> cases r.all Unicode.isDigit <;> rfl
  rw [← z]
  cases (cl x).all (fun c => decide (c < 128)) <;> cases (cl x).all Unicode.isDigit <;> cases (cl x).isEmpty <;> rfl
theorem starts0 (x : Str) : Txt.startswith x "0" = ((cl x).head? == some 48) := by
  unfold Txt.startswith
  rw [at0, cl_zero, show ("0" : Str).length = 1 by decide +kernel, cl_len]
  rw [show [48].length = 1 from rfl, take_one]
  cases cl x with
  | nil => rfl
  | cons c r =>
    rw [decide_eq_true (by simp), Bool.true_and]
theorem str_eq {x y : Str} : decide (V.str x = V.str y) = decide (cl x = cl y) := by
  by_cases q : cl x = cl y
  · rw [decide_eq_true q, decide_eq_true (congrArg V.str (cl_inj q))]
  · rw [decide_eq_false q, decide_eq_false fun z => q (congrArg cl (V.str.inj z))]
theorem num_bad {x y : Str} (hy : cl y = fig (cl x)) (h : (Txt.isascii y && Txt.isdigit y) = false) : num (cl x) = none := by
  rw [digits_ascii, hy] at h
  unfold num numOk
  rw [h, Bool.false_and, Bool.false_and, if_neg (by decide)]
theorem num_long {x y : Str} (hy : cl y = fig (cl x)) (h : ¬ y.length ≤ 18) : num (cl x) = none := by
  rw [cl_len, hy] at h
  unfold num numOk
  rw [decide_eq_false h, Bool.and_false, Bool.false_and, if_neg (by decide)]
theorem num_lead {x y : Str} (hy : cl y = fig (cl x)) (h : Txt.startswith y "0" = true) (h2 : cl x ≠ [48]) : num (cl x) = none := by
  rw [starts0, hy] at h
  unfold num numOk
  rw [show ((fig (cl x)).head? != some 48) = false by rw [bne, h]; rfl, show (cl x == [48]) = false from beq_eq_false_iff_ne.mpr h2]
  rw [Bool.or_self, Bool.and_false, if_neg (by decide)]
theorem num_good {x y : Str} (hy : cl y = fig (cl x)) (h1 : (Txt.isascii y && Txt.isdigit y) = true) (h2 : y.length ≤ 18) (h3 : Txt.startswith y "0" = false ∨ cl x = [48]) : ∃ n, num (cl x) = some n ∧ intText? x = some n := by
  have ok : numOk (cl x) = true := by
    rw [digits_ascii, hy] at h1
    rw [cl_len, hy] at h2
    unfold numOk
    rw [h1, decide_eq_true h2, Bool.true_and, Bool.true_and]
    rcases h3 with h3 | h3
    · rw [starts0, hy] at h3
      rw [bne, h3]
      rfl
    · rw [h3]
      decide
  have e : ∃ n, num (cl x) = some n := ⟨_, if_pos ok⟩
  obtain ⟨n, e⟩ := e
  exact ⟨n, e, num_int e⟩
theorem num_e1 {l : List Nat} (h : fig l = []) : num l = none := by
  unfold num numOk
  rw [h]
  rfl
theorem num_e2 {l : List Nat} (h : (fig l).all dig = false) : num l = none := by
  unfold num numOk
  rw [h, Bool.false_and, Bool.false_and, Bool.false_and, if_neg (by decide)]
theorem num_e3 {l : List Nat} (h : ¬(fig l).length ≤ 18) : num l = none := by
  unfold num numOk
  rw [decide_eq_false h, Bool.and_false, Bool.false_and, if_neg (by decide)]
theorem num_e4 {l : List Nat} (h : (fig l).head? = some 48) (h2 : l ≠ [48]) : num l = none := by
  unfold num numOk
  rw [h, show (l == [48]) = false from beq_eq_false_iff_ne.mpr h2]
  rw [show ((some 48 : Option Nat) != some 48) = false from by decide, Bool.or_self, Bool.and_false, if_neg (by decide)]
theorem num_ok {l : List Nat} (h1 : fig l ≠ []) (h2 : (fig l).all dig = true) (h3 : (fig l).length ≤ 18) (h4 : (fig l).head? ≠ some 48 ∨ l = [48]) : num l = some (if isNeg l = true then -(NumText.digitsVal (fig l) : Int) else (NumText.digitsVal (fig l) : Int)) := by
  refine if_pos ?_
  unfold numOk
  rw [h2, decide_eq_true h3]
  have e : (fig l).isEmpty = false := by
    cases q : fig l with
    | nil => exact absurd q h1
    | cons a b => rfl
  rw [e]
  rcases h4 with h4 | h4
  · rw [bne_iff_ne.mpr h4]
    rfl
  · rw [h4]
    rfl
theorem int_digits {y : Str} (h1 : cl y ≠ []) (h2 : (cl y).all dig = true) (h3 : (cl y).length ≤ 18) : intText? y = some (NumText.digitsVal (cl y) : Int) := by
  refine PySem.intText_digits (fun c m => ?_) h1 (by rw [cl_len]; omega)
  have := List.all_eq_true.mp h2 c m
  simpa [dig] using this
theorem one_eq (c d : Nat) {y : Str} (hy : cl y = [d]) : decide (V.str ⟨#[c]⟩ = V.str y) = decide (c = d) := by
  rw [str_eq, hy, show cl ⟨#[c]⟩ = [c] from rfl]
  by_cases q : c = d
  · subst q
    rw [decide_eq_true rfl, decide_eq_true rfl]
  · rw [decide_eq_false q, decide_eq_false fun z => q (List.cons.inj z).1]
theorem atI_head {c : Nat} {r : List Nat} {l : List Nat} (h : l = c :: r) : atI l 0 = some c := by
  subst h
  exact atI_nat (j := 0) rfl
theorem dval_lt : ∀ (k : Nat) (cs : List Nat), cs.length = k → cs.all dig = true → NumText.digitsVal cs < 10 ^ k := by
  intro k
  induction k with
  | zero =>
    intro cs h _
    rw [List.length_eq_zero_iff.mp h]
    decide
  | succ k ih =>
    intro cs h a
    have ne : cs ≠ [] := fun z => by rw [z] at h; cases h
    have e := (List.dropLast_concat_getLast ne).symm
    have l : cs.dropLast.length = k := by rw [List.length_dropLast, h]; rfl
    rw [e, List.all_append, Bool.and_eq_true] at a
    have b := ih _ l a.1
    have c : dig (cs.getLast ne) = true := by simpa using a.2
    have c2 : cs.getLast ne ≤ 57 := by
      unfold dig at c
      rw [Bool.and_eq_true, decide_eq_true_eq, decide_eq_true_eq] at c
      exact c.2
    rw [e, NumText.digitsVal_snoc, Nat.pow_succ]
    omega
theorem num_props {l : List Nat} {n : Int} (h : num l = some n) : n.natAbs < 10 ^ 18 ∧ l.length ≤ 19 := by
  have ok : numOk l = true := by
    cases q : numOk l with
    | true => rfl
    | false =>
      unfold num at h
      rw [q, if_neg (by decide)] at h
      cases h
  unfold num at h
  rw [if_pos ok] at h
  unfold numOk at ok
  simp only [Bool.and_eq_true, decide_eq_true_eq] at ok
  obtain ⟨⟨⟨o1, _⟩, o3⟩, _⟩ := ok
  have b := dval_lt _ _ rfl o1
  have c : (10 : Nat) ^ (fig l).length ≤ 10 ^ 18 := Nat.pow_le_pow_right (by decide) o3
  have ln : l.length ≤ (fig l).length + 1 := by
    unfold fig
    split
    · rw [List.length_tail]
      omega
    · omega
  refine ⟨?_, by omega⟩
  have e := Option.some.inj h
  rw [← e]
  split <;> omega
theorem two56 : ∀ k ∈ List.range 57, (2 : Int) ^ k ≤ 72057594037927936 ∧ 1 ≤ (2 : Int) ^ k := by decide +kernel
theorem ten17 : ∀ k ∈ List.range 18, (10 : Int) ^ k ≤ 100000000000000000 ∧ 1 ≤ (10 : Int) ^ k := by decide +kernel
theorem rd_props {x : Str} {lo hi : Int} (h : rdKind x = some (lo, hi)) : lo ≤ 0 ∧ 0 ≤ hi ∧ lo.natAbs < 10 ^ 18 ∧ hi.natAbs < 10 ^ 18 := by
  unfold rdKind at h
  by_cases q : isWord (Txt.partition x " ").1
  · rw [if_pos q] at h
    cases e : num (cl (Txt.partition x " ").2.2) with
    | none => rw [e] at h; cases h
    | some n =>
      rw [e] at h
      have h : kindOf (Txt.partition x " ").1 n = some (lo, hi) := h
      unfold kindOf at h
      split at h
      · split at h
        · rename_i b
          have z := two56 (n - 1).toNat (List.mem_range.mpr (by omega))
          have e := Option.some.inj h
          have e1 := congrArg Prod.fst e
          have e2 := congrArg Prod.snd e
          simp only at e1 e2
          omega
        · cases h
      · split at h
        · split at h
          · rename_i b
            have z := two56 n.toNat (List.mem_range.mpr (by omega))
            have e := Option.some.inj h
            have e1 := congrArg Prod.fst e
            have e2 := congrArg Prod.snd e
            simp only at e1 e2
            omega
          · cases h
        · split at h
          · split at h
            · rename_i b
              have z := ten17 n.toNat (List.mem_range.mpr (by omega))
              have e := Option.some.inj h
              have e1 := congrArg Prod.fst e
              have e2 := congrArg Prod.snd e
              simp only at e1 e2
              omega
            · cases h
          · cases h
  · rw [if_neg q] at h
    obtain ⟨m, n, em, en⟩ := pair_some h
    have p1 := (num_props em).1
    have p2 := (num_props en).1
    unfold pairP at h
    rw [em, en] at h
    have h : (if m ≤ 0 ∧ 0 ≤ n then some (m, n) else none) = some (lo, hi) := h
    split at h
    · have e := Option.some.inj h
      have e1 := congrArg Prod.fst e
      have e2 := congrArg Prod.snd e
      simp only at e1 e2
      omega
    · cases h
theorem tx_len {n : Int} (h : n.natAbs < 10 ^ 18) : (tx n).length ≤ 19 := by
  rw [cl_len]
  exact (num_props (num_tx h)).2
section
variable {K : PySem.W.Frag} {H : Hp} {p : Addr}
theorem rd_for {wi : TI} {g : TG} {tb : TS} {D : Ends} {σ : L2.St} (k : wi σ H fun J H1 => ∃ W : Nat → Nat → L2.St → Hp → Prop, (∃ m, W 0 m σ H1) ∧ ∀ i m σ H, W i m σ H →
  (J.stop i H ∧ D.nx σ H) ∨ (J.go i H ∧ ∃ N : L2.St → Hp → Prop, (∀ σ' H', N σ' H' → ∃ m', m' < m ∧ W (i + 1) m' σ' H') ∧ ∀ x H', J.yld i H x H' → g x σ H' fun σ2 H2 => tb { D with nx := N, ct := N, bk := D.nx } σ2 H2)) : tFor wi g tb D σ H := k
theorem rd_iT {tl : TE} {σ : L2.St} {R : It → Hp → Prop} (k : tl σ H fun x H1 => ∃ a, x = .ref a ∧ (∃ xs, SqT K H1 a xs) ∧ R (Itt K a) H1) : iTup K tl σ H R := k
theorem rd_iL {tl : TE} {σ : L2.St} {R : It → Hp → Prop} (k : tl σ H fun x H1 => ∃ a, x = .ref a ∧ (∃ xs, SqL K H1 a xs) ∧ R (Itl K a) H1) : iList K tl σ H R := k
theorem rd_iTa {xs : List V} {R : Addr → Prop} (h : H p = some (.tup xs)) (k : R p) : ∃ a, V.ref p = .ref a ∧ (∃ xs, SqT K H a xs) ∧ R a := ⟨p, rfl, ⟨xs, SqT.of h⟩, k⟩
theorem rd_iLa {xs : List V} {R : Addr → Prop} (h : H p = some (.lst xs)) (k : R p) : ∃ a, V.ref p = .ref a ∧ (∃ xs, SqL K H a xs) ∧ R a := ⟨p, rfl, ⟨xs, SqL.of h⟩, k⟩
theorem rd_rng2 {tA : TA} {σ : L2.St} {R : It → Hp → Prop} (k : tA σ H fun vs H1 => ∃ i j : Int, vs = [.int i, .int j] ∧ (-(2 ^ 62) ≤ i ∧ i < 2 ^ 62 ∧ -(2 ^ 62) ≤ j ∧ j < 2 ^ 62) ∧ R (Itr i (j - i).toNat) H1) : iRng2 tA σ H R := k
theorem rd_rng1 {tA : TA} {σ : L2.St} {R : It → Hp → Prop} (k : tA σ H fun vs H1 => ∃ j : Int, vs = [.int j] ∧ -(2 ^ 62) ≤ j ∧ j < 2 ^ 62 ∧ R (Itr 0 j.toNat) H1) : iRng1 tA σ H R := k
theorem Pot.same {H H' : Hp} {p : Addr} {n : Nat} (h : Pot H p n) (s : Same H H') : Pot H' p n := by
  obtain ⟨x, z, c, a, b⟩ := h
  exact ⟨x, z, c, s _ _ a, b⟩
theorem rep_snoc {α : Type} (i : Nat) (x : α) : List.replicate i x ++ [x] = List.replicate (i + 1) x := by
  rw [List.replicate_succ']
theorem all_rep (i : Nat) : (List.replicate i true).all id = true := by
  induction i with
  | zero => rfl
  | succ n ih => rw [List.replicate_succ, List.all_cons, ih]; rfl
end
section
variable {P : Program} {w : World} {K : PySem.W.Frag} {mg : Str → Option Value} {base : Heap}
/-! ### k04: the program's defs -/
abbrev s_BadBits___init__ : Stmt := (inClass (top 4) 0)
abbrev N_BadBits___init__ : List Str := ["self", "value"]
abbrev P_BadBits___init__ : List Str := ["self", "value"]
theorem sc_BadBits___init__ : FnScope N_BadBits___init__ P_BadBits___init__ (defScope s_BadBits___init__) := ⟨rfl, rfl, rfl, by decide +kernel, rfl, by decide +kernel, by decide +kernel⟩
abbrev s_BadKind___init__ : Stmt := (inClass (top 3) 0)
abbrev N_BadKind___init__ : List Str := ["self", "one", "other"]
abbrev P_BadKind___init__ : List Str := ["self", "one", "other"]
theorem sc_BadKind___init__ : FnScope N_BadKind___init__ P_BadKind___init__ (defScope s_BadKind___init__) := ⟨rfl, rfl, rfl, by decide +kernel, rfl, by decide +kernel, by decide +kernel⟩
abbrev s_BadText___init__ : Stmt := (inClass (top 5) 0)
abbrev N_BadText___init__ : List Str := ["self", "value"]
abbrev P_BadText___init__ : List Str := ["self", "value"]
theorem sc_BadText___init__ : FnScope N_BadText___init__ P_BadText___init__ (defScope s_BadText___init__) := ⟨rfl, rfl, rfl, by decide +kernel, rfl, by decide +kernel, by decide +kernel⟩
abbrev s_is_between : Stmt := (top 9)
abbrev N_is_between : List Str := ["value", "low", "high"]
abbrev P_is_between : List Str := ["value", "low", "high"]
theorem sc_is_between : FnScope N_is_between P_is_between (defScope s_is_between) := ⟨rfl, rfl, rfl, by decide +kernel, rfl, by decide +kernel, by decide +kernel⟩
abbrev s__power_of_ten : Stmt := (top 17)
abbrev N__power_of_ten : List Str := ["many", "power", "_"]
abbrev P__power_of_ten : List Str := ["many"]
theorem sc__power_of_ten : FnScope N__power_of_ten P__power_of_ten (defScope s__power_of_ten) := ⟨rfl, rfl, rfl, by decide +kernel, rfl, by decide +kernel, by decide +kernel⟩
abbrev s_Kind___eq__ : Stmt := (inClass (top 16) 7)
abbrev N_Kind___eq__ : List Str := ["self", "other"]
abbrev P_Kind___eq__ : List Str := ["self", "other"]
theorem sc_Kind___eq__ : FnScope N_Kind___eq__ P_Kind___eq__ (defScope s_Kind___eq__) := ⟨rfl, rfl, rfl, by decide +kernel, rfl, by decide +kernel, by decide +kernel⟩
abbrev s_Kind___str__ : Stmt := (inClass (top 16) 14)
abbrev N_Kind___str__ : List Str := ["self"]
abbrev P_Kind___str__ : List Str := ["self"]
theorem sc_Kind___str__ : FnScope N_Kind___str__ P_Kind___str__ (defScope s_Kind___str__) := ⟨rfl, rfl, rfl, by decide +kernel, rfl, by decide +kernel, by decide +kernel⟩
abbrev s_read_integer : Stmt := (top 12)
abbrev N_read_integer : List Str := ["text", "figures"]
abbrev P_read_integer : List Str := ["text"]
theorem sc_read_integer : FnScope N_read_integer P_read_integer (defScope s_read_integer) := ⟨rfl, rfl, rfl, by decide +kernel, rfl, by decide +kernel, by decide +kernel⟩
abbrev s_Kind_signed : Stmt := (inClass (top 16) 1)
abbrev N_Kind_signed : List Str := ["cls", "bits", "half"]
abbrev P_Kind_signed : List Str := ["cls", "bits"]
theorem sc_Kind_signed : FnScope N_Kind_signed P_Kind_signed (defScope s_Kind_signed) := ⟨rfl, rfl, rfl, by decide +kernel, rfl, by decide +kernel, by decide +kernel⟩
abbrev s_Kind_unsigned : Stmt := (inClass (top 16) 2)
abbrev N_Kind_unsigned : List Str := ["cls", "bits"]
abbrev P_Kind_unsigned : List Str := ["cls", "bits"]
theorem sc_Kind_unsigned : FnScope N_Kind_unsigned P_Kind_unsigned (defScope s_Kind_unsigned) := ⟨rfl, rfl, rfl, by decide +kernel, rfl, by decide +kernel, by decide +kernel⟩
abbrev s_Kind_digits : Stmt := (inClass (top 16) 3)
abbrev N_Kind_digits : List Str := ["cls", "many"]
abbrev P_Kind_digits : List Str := ["cls", "many"]
theorem sc_Kind_digits : FnScope N_Kind_digits P_Kind_digits (defScope s_Kind_digits) := ⟨rfl, rfl, rfl, by decide +kernel, rfl, by decide +kernel, by decide +kernel⟩
abbrev s_Kind_read : Stmt := (inClass (top 16) 4)
abbrev N_Kind_read : List Str := ["cls", "text", "word", "_", "many", "low", "high"]
abbrev P_Kind_read : List Str := ["cls", "text"]
theorem sc_Kind_read : FnScope N_Kind_read P_Kind_read (defScope s_Kind_read) := ⟨rfl, rfl, rfl, by decide +kernel, rfl, by decide +kernel, by decide +kernel⟩

theorem IsKind.kp {C a p : Addr} {H H' : Hp} {lo hi : Int} {n : Nat} (h : IsKind C H a lo hi) (hp : Pot H p n) (k : Kp p H H') : IsKind C H' a lo hi := by
  obtain ⟨dx, e⟩ := h
  obtain ⟨x, z, c, ep, _⟩ := hp
  exact ⟨dx, k _ _ (fun q => by rw [q, ep] at e; cases e) e⟩
/-- an error's class, called -/
def CalE (P : Program) (w : World) (K : PySem.W.Frag) (mg : Str → Option Value) (base : Heap) (C : Addr) (ps : List Str) (sp : Sp) : Prop :=
  ∃ (f : Addr) (fd : FuncData), PySem.W.findIn K (.ref C) "__init__" = some (some (.ref f)) ∧ PySem.W.typeIn K (.ref f) = some (.type "function") ∧ FnOk P w K mg base CX0 1 f fd ps sp ∧ Binds K fd ps []
def CalEH (P : Program) (w : World) (K : PySem.W.Frag) (mg : Str → Option Value) (base : Heap) (C : Addr) (ps : List Str) (sp : Sp) : Prop :=
  ∃ (f : Addr) (fd : FuncData), PySem.W.findIn K (.ref C) "__init__" = some (some (.ref f)) ∧ PySem.W.typeIn K (.ref f) = some (.type "function") ∧ L2H.FnH P w K mg base CX0 1 f fd ps sp ∧ Binds K fd ps []
theorem ok_BadBits {f C CW : Addr} {fd : FuncData} (F : Fun K "__init__" "BadBits.__init__" s_BadBits___init__ f fd) (ET : ErrT K mg CW C "BadBits") : FnOk P w K mg base CX0 1 f fd P_BadBits___init__ (spBad C) := by
  refine F.ok sc_BadBits___init__ (fun vs H Q E h => ?_) (fun cdv A outer s H vs Q E hr h => ?_)
  · obtain ⟨a, v, rfl, _⟩ := h
    rfl
  · obtain ⟨a, v, rfl, e, k⟩ := h
    refine ⟨_, (pss_one (ps_ost (pv 0) (pv 1))), ?_⟩
    unfold tOst
    fail "z go"
    exact rd_ost ET.ox ET.nv e k
theorem ok_BadText {f C CW : Addr} {fd : FuncData} (F : Fun K "__init__" "BadText.__init__" s_BadText___init__ f fd) (ET : ErrT K mg CW C "BadText") : FnOk P w K mg base CX0 1 f fd P_BadText___init__ (spBad C) := by
  refine F.ok sc_BadText___init__ (fun vs H Q E h => ?_) (fun cdv A outer s H vs Q E hr h => ?_)
  · obtain ⟨a, v, rfl, _⟩ := h
    rfl
  · obtain ⟨a, v, rfl, e, k⟩ := h
    refine ⟨_, (pss_one (ps_ost (pv 0) (pv 1))), ?_⟩
    unfold tOst
    fail "z go"
    exact rd_ost ET.ox ET.nv e k
theorem okH_BadText {f C CW : Addr} {fd : FuncData} (F : Fun K "__init__" "BadText.__init__" s_BadText___init__ f fd) (ET : ErrT K mg CW C "BadText") : L2H.FnH P w K mg base CX0 1 f fd P_BadText___init__ (spBad C) := by
  refine Fun_okH F sc_BadText___init__ (fun vs H Q E h => ?_) (fun cdv A outer s H vs Q E p hot hr h => ?_)
  · obtain ⟨a, v, rfl, _⟩ := h
    rfl
  · obtain ⟨a, v, rfl, e, k⟩ := h
    refine ⟨_, (pss_one (ps_ost (pv 0) (pv 1))), ?_⟩
    unfold tOst
    fail "z go"
    exact rd_ost ET.ox ET.nv e k
theorem ok_BadKind {f C CW : Addr} {fd : FuncData} (F : Fun K "__init__" "BadKind.__init__" s_BadKind___init__ f fd) (ET : ErrT2 K mg CW C "BadKind" "one" "other") : FnOk P w K mg base CX0 1 f fd P_BadKind___init__ (spBad2 C "one" "other") := by
  refine F.ok sc_BadKind___init__ (fun vs H Q E h => ?_) (fun cdv A outer s H vs Q E hr h => ?_)
  · obtain ⟨a, v, w, rfl, _⟩ := h
    rfl
  · obtain ⟨a, v, w, rfl, e, k⟩ := h
    refine ⟨_, (pss_cons (ps_ost (pv 0) (pv 1))
      (pss_one (ps_ost (pv 0) (pv 2)))), ?_⟩
    unfold tOst
    fail "z go"
    refine rd_ost ET.ox ET.n1 e fun dx nd ne => ?_
    fail "z go"
    exact rd_ost2 ET.ox ET.n2 upd_same ((upd_ne ne).trans upd_same) (Nat.le_of_ble_eq_true rfl) (k dx nd ne)
theorem Plain.same {H H' : Hp} {v : V} (h : Plain H v) (s : Same H H') : Plain H' v := by
  cases h with
  | non => exact .non
  | bl b => exact .bl b
  | int i => exact .int i
  | str x => exact .str x
  | lst e => exact .lst (s _ _ e)
  | tup e => exact .tup (s _ _ e)
  | dK e => exact .dK (s _ _ e)
def okK (lo hi : V) : Bool := match lo, hi with
  | .int a, .int b => decide (a ≤ 0) && decide (0 ≤ b)
  | _, _ => false
def spKindX (C CB : Addr) : Sp := fun vs H Q E => ∃ (p dx : Addr) (lo hi : V), vs = [.ref p, lo, hi] ∧ H p = some (.ins C dx []) ∧ Plain H lo ∧ Plain H hi ∧
  (∀ a b : Int, lo = .int a → hi = .int b → a ≤ 0 → 0 ≤ b → ∀ H' : Hp, Kp p H H' → H' p = some (.ins C dx (kf a b)) → Q .non H') ∧
  (okK lo hi = false → ∀ d H', H d = none → Same H H' → H' d = some (.xd [("other", hi), ("one", lo)]) → E (.ref CB) (some d) H')
def CalK (P : Program) (w : World) (K : PySem.W.Frag) (mg : Str → Option Value) (base : Heap) (C CB : Addr) : Prop :=
  ∃ (f : Addr) (fd : FuncData), Mk K C f ∧ FnOk P w K mg base (L2N.CX P w) 3 f fd P_Kind___init__ (spKindX C CB) ∧ Binds K fd P_Kind___init__ [] ∧ mg "Kind" = some (.ref C)
theorem ok_KindX {f C CW C_BadKind : Addr} {fd : FuncData} (F : Fun K "__init__" "Kind.__init__" s_Kind___init__ f fd) (KT : KindT K C) (ET_BadKind : ErrT2 K mg CW C_BadKind "BadKind" "one" "other") (c_is : Cal P w K mg base 1 "is_integer" P_is_integer spIsInt) (c_bad : CalE P w K mg base C_BadKind P_BadKind___init__ (spBad2 C_BadKind "one" "other")) :
    FnOk P w K mg base (L2N.CX P w) 3 f fd P_Kind___init__ (spKindX C C_BadKind) := by
  obtain ⟨f_is, fd_is, G_is_integer, b_is_integer, g_is_integer, k_is_integer⟩ := c_is
  obtain ⟨f_b, fd_b, i_BadKind, t_BadKind, G_BadKind, b_BadKind⟩ := c_bad
  have g_BadKind := ET_BadKind.g
  refine Fun_okN F sc_Kind___init__ (fun vs H Q E h => ?_) (fun cdv A outer s H vs Q E hr h => ?_)
  · obtain ⟨p, dx, lo, hi, rfl, _⟩ := h
    rfl
  · obtain ⟨p, dx, lo, hi, rfl, hp, p1, p2, k1, k2⟩ := h
    refine ⟨_, (pss_cons (ps_if (PW.pt (pw_or (pt_not (pt_val (pe_call G_is_integer (hr.mono (by decide)) rfl g_is_integer k_is_integer b_is_integer .nil pass0 (pa_cons (pv 1) pa_nil)))) (pw_or (pt_not (pt_val (pe_call G_is_integer (hr.mono (by decide)) rfl g_is_integer k_is_integer b_is_integer .nil pass0 (pa_cons (pv 2) pa_nil)))) (pw_or1 (pt_not (pt_chain op_le op_le (pv 1) pe_int (pv 2))))))) (pss_one (L2N.ps_raise rfl (L2N.takes_of rfl rfl rfl rfl) (pmkN_oex ET_BadKind.ox i_BadKind t_BadKind G_BadKind (hr.mono (by decide)) b_BadKind .nil pass0 rfl g_BadKind (pa_cons (pv 1) (pa_cons (pv 2) pa_nil))))) pss_nil)
      (pss_cons (ps_fld (pv 0) (pv 1) rfl)
      (pss_cons (ps_fld (pv 0) (pv 2) rfl)
      (pss_one (ps_fld (pv 0) (pe_op op_add (pe_op op_sub (pv 2) (pv 1)) pe_int) rfl))))), ?_⟩
    unfold tMkO
    fail "z run"
    refine ⟨_, rfl, p1, ?_⟩
    fail "z run"
    refine rd_iteB (fun hb => ?_) (fun hb => ?_)
    · fail "z run"
      exact rd_bad2 fun d H' nd S ed => k2 (by cases lo <;> first | rfl | cases hb) d H' nd S ed
    obtain ⟨a, rfl⟩ : ∃ n, lo = .int n := by cases lo <;> first | exact ⟨_, rfl⟩ | cases hb
    fail "z run"
    refine ⟨_, rfl, p2, ?_⟩
    fail "z run"
    refine rd_iteB (fun hb => ?_) (fun hb => ?_)
    · fail "z run"
      exact rd_bad2 fun d H' nd S ed => k2 (by cases hi <;> first | rfl | cases hb) d H' nd S ed
    obtain ⟨b, rfl⟩ : ∃ n, hi = .int n := by cases hi <;> first | exact ⟨_, rfl⟩ | cases hb
    fail "z run"
    refine rd_iteB (fun h1 => ?_) (fun h1 => ?_)
    · fail "z run"
      refine rd_iteB (fun h2 => ?_) (fun h2 => ?_)
      · fail "z run"
        exact rd_bad2 fun d H' nd S ed => k2 (by
          show (decide (a ≤ 0) && decide (0 ≤ b)) = false
          cases q : decide (0 ≤ b) with
          | true => rw [q] at h2; cases h2
          | false => rw [Bool.and_false]) d H' nd S ed
      · have ha := of_decide_eq_true h1
        have hb : 0 ≤ b := of_decide_eq_true (by cases q : decide (0 ≤ b) with | true => rfl | false => rw [q] at h2; cases h2)
        fail "z go"
        refine rd_sfldI hp KT.cl KT.n_low (by decide) ?_
        fail "z go"
        have l1 := length_putF "low" (.int a) []
        refine rd_sfldI upd_same KT.cl KT.n_high (by show _ < 1000; simp only [List.length_nil] at l1; omega) ?_
        fail "z go"
        have l2 := length_putF "high" (.int b) (putF "low" (.int a) [])
        refine rd_sfldI upd_same KT.cl KT.n_size (by show _ < 1000; simp only [List.length_nil] at l1; omega) ?_
        exact k1 a b rfl rfl ha hb _ Kp.refl.put.put.put upd_same
    · fail "z run"
      refine iteT ?_
      fail "z run"
      exact rd_bad2 fun d H' nd S ed => k2 (by
        show (decide (a ≤ 0) && decide (0 ≤ b)) = false
        rw [h1, Bool.false_and]) d H' nd S ed
/-- Kind(low, high) of any values, where it is called -/
theorem rd_KindA {C CB : Addr} {H : Hp} {E : XK} {lo hi : V} {R : Addr → Hp → Prop} (p1 : Plain H lo) (p2 : Plain H hi) (kg : ∀ a b : Int, lo = .int a → hi = .int b → a ≤ 0 → 0 ≤ b → ∀ (x : Addr) (H' : Hp), H x = none → Same H H' → IsKind C H' x a b → R x H')
    (kb : okK lo hi = false → ∀ d H', H d = none → Same H H' → H' d = some (.xd [("other", hi), ("one", lo)]) → E (.ref CB) (some d) H') :
    ∀ x dx, H x = none → H dx = none → dx ≠ x → spKindX C CB (.ref x :: ([lo, hi] ++ [])) (upd (upd H dx (.own x)) x (.ins C dx [])) (fun v H2 => v = .non ∧ R x H2) E := by
  intro x dx nx nd ne
  have S : Same H (upd (upd H dx (.own x)) x (.ins C dx [])) := fun b o e => (upd_ne (ne_of_none e nx)).trans ((upd_ne (ne_of_none e nd)).trans e)
  refine ⟨x, dx, lo, hi, rfl, upd_same, p1.same S, p2.same S, fun a b ea eb a0 b0 H' kp hx => ⟨rfl, kg a b ea eb a0 b0 x H' nx (fun b o e => kp b o (ne_of_none e nx) (S _ _ e)) ⟨dx, hx⟩⟩, fun z d H' nd2 S2 ed => ?_⟩
  have n1 : d ≠ x := fun e => by rw [e, upd_same] at nd2; cases nd2
  have n2 : d ≠ dx := fun e => by rw [e, upd_ne ne, upd_same] at nd2; cases nd2
  exact kb z d H' (by rw [upd_ne n1, upd_ne n2] at nd2; exact nd2) (S.trans S2) ed
theorem rd_Kind {C CB : Addr} {H : Hp} {E : XK} {lo hi : Int} {R : Addr → Hp → Prop} (h1 : lo ≤ 0) (h2 : 0 ≤ hi) (k : ∀ (a : Addr) (H' : Hp), H a = none → Same H H' → IsKind C H' a lo hi → R a H') :
    ∀ x dx, H x = none → H dx = none → dx ≠ x → spKindX C CB (.ref x :: ([V.int lo, V.int hi] ++ [])) (upd (upd H dx (.own x)) x (.ins C dx [])) (fun v H2 => v = .non ∧ R x H2) E :=
  rd_KindA (.int _) (.int _) (fun a b ea eb _ _ x H' nx S q => by cases ea; cases eb; exact k x H' nx S q) fun z => by
    rw [show okK (.int lo) (.int hi) = (decide (lo ≤ 0) && decide (0 ≤ hi)) from rfl, decide_eq_true h1, decide_eq_true h2] at z
    cases z
def btw (v : V) (lo hi : Int) : Bool := match v with
  | .int n => decide (lo ≤ n) && decide (n ≤ hi)
  | _ => false
theorem btw_no {v : V} {lo hi : Int} (h : isI v = false) : btw v lo hi = false := by
  cases v <;> first | rfl | cases h
theorem isI_int {v : V} (h : isI v = true) : ∃ n, v = .int n := by
  cases v <;> first | exact ⟨_, rfl⟩ | cases h
theorem btw_yes {v : V} {lo hi : Int} (h : btw v lo hi = true) : ∃ n, v = .int n ∧ lo ≤ n ∧ n ≤ hi := by
  cases v with
  | int n =>
    have h : (decide (lo ≤ n) && decide (n ≤ hi)) = true := h
    rw [Bool.and_eq_true, decide_eq_true_eq, decide_eq_true_eq] at h
    exact ⟨n, rfl, h.1, h.2⟩
  | _ => cases h
def spBtw : Sp := fun vs H Q _ => ∃ (v : V) (lo hi : Int), vs = [v, .int lo, .int hi] ∧ Plain H v ∧ Q (.bl (btw v lo hi)) H
theorem ok_btw {f : Addr} {fd : FuncData} (F : Fun K "is_between" "is_between" s_is_between f fd) (c_is : Cal P w K mg base 1 "is_integer" P_is_integer spIsInt) : FnOk P w K mg base CX0 2 f fd P_is_between spBtw := by
  obtain ⟨f_is, fd_is, G_is_integer, b_is_integer, g_is_integer, k_is_integer⟩ := c_is
  refine F.ok sc_is_between (fun vs H Q E h => ?_) (fun cdv A outer s H vs Q E hr h => ?_)
  · obtain ⟨v, lo, hi, rfl, _⟩ := h
    rfl
  · obtain ⟨v, lo, hi, rfl, p, k⟩ := h
    refine ⟨_, (pss_one (ps_ret (pe_and (pe_call G_is_integer (hr.mono (by decide)) rfl g_is_integer k_is_integer b_is_integer .nil pass0 (pa_cons (pv 0) pa_nil)) (pe_one (pe_chain op_le op_le (pv 1) (pv 0) (pv 2)))))), ?_⟩
    fail "z run"
    refine ⟨_, rfl, p, ?_⟩
    fail "z run"
    refine rd_iteB (fun hb => ?_) (fun hb => ?_)
    · obtain ⟨n, rfl⟩ := isI_int hb
      fail "z run"
      refine rd_iteB (fun h1 => ?_) (fun h1 => ?_)
      · fail "z run"
        have e : btw (.int n) lo hi = decide (n ≤ hi) := by
          show (decide (lo ≤ n) && decide (n ≤ hi)) = _
          rw [h1, Bool.true_and]
        rw [← e]
        exact k
      · have e : btw (.int n) lo hi = false := by
          show (decide (lo ≤ n) && decide (n ≤ hi)) = _
          rw [h1, Bool.false_and]
        rw [← e]
        exact k
    · rw [btw_no hb] at k
      exact k
def spPowN (b : Int) : Sp := fun vs H Q _ => ∃ n : Int, vs = [.int n] ∧ 0 ≤ n ∧ n ≤ 60 ∧ Q (.int (b ^ n.toNat)) H
theorem pow_le60 {b : Int} (hb : 1 ≤ b) (hb2 : b ≤ 10) {i : Nat} (h : i ≤ 60) : 1 ≤ b ^ i ∧ b ^ i ≤ 10 ^ 60 := by
  have z : ∀ i : Nat, 1 ≤ b ^ i ∧ b ^ i ≤ 10 ^ i := fun i => by
    induction i with
    | zero => exact ⟨by simp, by simp⟩
    | succ i ih =>
      rw [Int.pow_succ, Int.pow_succ]
      refine ⟨?_, Int.mul_le_mul ih.2 hb2 (by omega) (by have := Int.pow_pos (n := 10) (m := i) (by decide); omega)⟩
      have := Int.mul_le_mul ih.1 hb (by omega) (by omega)
      omega
  refine ⟨(z i).1, Int.le_trans (z i).2 ?_⟩
  have e : ((10 : Int) ^ i) = ((10 ^ i : Nat) : Int) := by norm_cast
  rw [e]
  exact_mod_cast Nat.pow_le_pow_right (by decide) h
theorem ok_ten {f : Addr} {fd : FuncData} (F : Fun K "_power_of_ten" "_power_of_ten" s__power_of_ten f fd) (T : Txt mg) : FnOk P w K mg base CX0 1 f fd P__power_of_ten (spPowN 10) := by
  refine F.ok sc__power_of_ten (fun vs H Q E h => ?_) (fun cdv A outer s H vs Q E hr h => ?_)
  · obtain ⟨n, rfl, _⟩ := h
    rfl
  · obtain ⟨n, rfl, n0, n1, k⟩ := h
    refine ⟨_, (pss_cons (ps_set (i := 1) sc__power_of_ten.nd rfl (Or.inl rfl) pe_int)
      (pss_cons (ps_for PassesOwn.never rfl (pi_range1 rfl T.n_range (pa_cons (pv 0) pa_nil)) (pg_name (i := 2) sc__power_of_ten.nd rfl (Or.inl rfl)) (pss_one (ps_set (i := 1) sc__power_of_ten.nd rfl (Or.inl rfl) (pe_op op_mul (pv 1) pe_int))))
      (pss_one (ps_ret (pv 1))))), ?_⟩
    fail "z run"
    with_reducible refine rd_for ?_
    with_reducible refine rd_rng1 ?_
    fail "z run"
    refine ⟨by omega, by omega, for_range (lo := 0) (fun i σ H' => ∃ v, σ = [some (.int n), some (.int (10 ^ i)), v] ∧ H' = H) ⟨none, rfl, rfl⟩ ?_ ?_⟩
    · rintro i σ H' hi ⟨v, rfl, rfl⟩
      have z := pow_le60 (b := 10) (by decide) (by decide) (i := i) (by omega)
      fail "z run"
      have e : (10 : Int) ^ (i + 1) = 10 ^ i * 10 := Int.pow_succ ..
      rw [e]
      exact ⟨_, rfl, rfl⟩
    · rintro σ H' ⟨v, rfl, rfl⟩
      fail "z run"
      exact k
/-- C.m(v): the kind from lo n to hi n for an integer n from 1 to most, else BadBits(v) -/
def spClsN (C CB : Addr) (most : Int) (lo hi : Int → Int) : Sp := fun vs H Q E => ∃ v, vs = [.ref C, v] ∧ Plain H v ∧
  (∀ n, v = .int n → 1 ≤ n → n ≤ most → ∀ x H', H x = none → Same H H' → IsKind C H' x (lo n) (hi n) → Q (.ref x) H') ∧
  (btw v 1 most = false → ∀ d H', H d = none → Same H H' → H' d = some (.xd [("value", v)]) → E (.ref CB) (some d) H')
structure TxtB (mg : Str → Option Value) (tb td tf : Tok) : Prop where
  g_MOST_BITS : mg "MOST_BITS" = some (.int 56 tb)
  g_MOST_DIGITS : mg "MOST_DIGITS" = some (.int 17 td)
  g_MOST_FIGURES : mg "MOST_FIGURES" = some (.int 18 tf)
theorem ok_signed {f C CB CW C_BadBits : Addr} {tb td tf : Tok} {fd : FuncData} (F : Fun K "signed" "Kind.signed" s_Kind_signed f fd) (TB : TxtB mg tb td tf) (ET_BadBits : ErrT K mg CW C_BadBits "BadBits") (c_btw : Cal P w K mg base 2 "is_between" P_is_between spBtw) (c_bad : CalE P w K mg base C_BadBits P_BadBits___init__ (spBad C_BadBits)) (c_kind : CalK P w K mg base C CB) :
    FnOk P w K mg base (L2N.CX P w) 5 f fd P_Kind_signed (spClsN C C_BadBits 56 (fun n => -(2 ^ (n - 1).toNat)) fun n => 2 ^ (n - 1).toNat - 1) := by
  obtain ⟨f_b, fd_b, G_is_between, b_is_between, g_is_between, k_is_between⟩ := c_btw
  obtain ⟨f_e, fd_e, i_BadBits, t_BadBits, G_BadBits, b_BadBits⟩ := c_bad
  obtain ⟨f_kind, fd_kind, mk_Kind, G_Kind, b_Kind, g_Kind⟩ := c_kind
  have g_BadBits := ET_BadBits.g
  refine Fun_okN F sc_Kind_signed (fun vs H Q E h => ?_) (fun cdv A outer s H vs Q E hr h => ?_)
  · obtain ⟨v, rfl, _⟩ := h
    rfl
  · obtain ⟨v, rfl, p, k1, k2⟩ := h
    refine ⟨_, (pss_cons (ps_if (pt_not (pt_val (pe_call G_is_between (hr.mono (by decide)) rfl g_is_between k_is_between b_is_between .nil pass0 (pa_cons (pv 1) (pa_cons pe_int (pa_cons (pe_glob (v := .int 56) rfl TB.g_MOST_BITS ⟨_, rfl⟩) pa_nil)))))) (pss_one (L2N.ps_raise rfl (L2N.takes_of rfl rfl rfl rfl) (pmkN_oex ET_BadBits.ox i_BadBits t_BadBits G_BadBits (hr.mono (by decide)) b_BadBits .nil pass0 rfl g_BadBits (pa_cons (pv 1) pa_nil)))) pss_nil)
      (pss_cons (ps_set (i := 2) sc_Kind_signed.nd rfl (Or.inl rfl) (pe_op op_shl pe_int (pe_op op_sub (pv 1) pe_int)))
      (pss_one (ps_ret (pe_makeL (pv 0) mk_Kind G_Kind (hr.mono (by decide)) b_Kind passN (pa_cons (pe_un un_neg (pv 2)) (pa_cons (pe_op op_sub (pv 2) pe_int) pa_nil))))))), ?_⟩
    unfold tMakeL tMkO
    fail "z run"
    refine ⟨_, _, _, rfl, p, ?_⟩
    fail "z run"
    refine rd_iteB (fun hb => ?_) (fun hb => ?_)
    · fail "z run"
      refine rd_bad fun d H' nd S ed => k2 ?_ d H' nd S ed
      cases q : btw v 1 56 with
      | false => rfl
      | true => rw [q] at hb; cases hb
    · obtain ⟨n, rfl, h1, h2⟩ := btw_yes (v := v) (lo := 1) (hi := 56) (by
        cases q : btw v 1 56 with
        | true => rfl
        | false => rw [q] at hb; cases hb)
      have z := pow_le60 (b := 2) (by decide) (by decide) (i := (n - 1).toNat) (by omega)
      fail "z run"
      refine ⟨rfl, ?_⟩
      fail "z run"
      simp only [Int.one_mul]
      refine rd_Kind (by omega) (by omega) fun x H' nx S ik => ?_
      exact k1 n rfl h1 h2 x H' nx S ik
theorem ok_unsigned {f C CB CW C_BadBits : Addr} {tb td tf : Tok} {fd : FuncData} (F : Fun K "unsigned" "Kind.unsigned" s_Kind_unsigned f fd) (TB : TxtB mg tb td tf) (ET_BadBits : ErrT K mg CW C_BadBits "BadBits") (c_btw : Cal P w K mg base 2 "is_between" P_is_between spBtw) (c_bad : CalE P w K mg base C_BadBits P_BadBits___init__ (spBad C_BadBits)) (c_kind : CalK P w K mg base C CB) :
    FnOk P w K mg base (L2N.CX P w) 5 f fd P_Kind_unsigned (spClsN C C_BadBits 56 (fun _ => 0) fun n => 2 ^ n.toNat - 1) := by
  obtain ⟨f_b, fd_b, G_is_between, b_is_between, g_is_between, k_is_between⟩ := c_btw
  obtain ⟨f_e, fd_e, i_BadBits, t_BadBits, G_BadBits, b_BadBits⟩ := c_bad
  obtain ⟨f_kind, fd_kind, mk_Kind, G_Kind, b_Kind, g_Kind⟩ := c_kind
  have g_BadBits := ET_BadBits.g
  refine Fun_okN F sc_Kind_unsigned (fun vs H Q E h => ?_) (fun cdv A outer s H vs Q E hr h => ?_)
  · obtain ⟨v, rfl, _⟩ := h
    rfl
  · obtain ⟨v, rfl, p, k1, k2⟩ := h
    refine ⟨_, (pss_cons (ps_if (pt_not (pt_val (pe_call G_is_between (hr.mono (by decide)) rfl g_is_between k_is_between b_is_between .nil pass0 (pa_cons (pv 1) (pa_cons pe_int (pa_cons (pe_glob (v := .int 56) rfl TB.g_MOST_BITS ⟨_, rfl⟩) pa_nil)))))) (pss_one (L2N.ps_raise rfl (L2N.takes_of rfl rfl rfl rfl) (pmkN_oex ET_BadBits.ox i_BadBits t_BadBits G_BadBits (hr.mono (by decide)) b_BadBits .nil pass0 rfl g_BadBits (pa_cons (pv 1) pa_nil)))) pss_nil)
      (pss_one (ps_ret (pe_makeL (pv 0) mk_Kind G_Kind (hr.mono (by decide)) b_Kind passN (pa_cons pe_int (pa_cons (pe_op op_sub (pe_op op_shl pe_int (pv 1)) pe_int) pa_nil)))))), ?_⟩
    unfold tMakeL tMkO
    fail "z run"
    refine ⟨_, _, _, rfl, p, ?_⟩
    fail "z run"
    refine rd_iteB (fun hb => ?_) (fun hb => ?_)
    · fail "z run"
      refine rd_bad fun d H' nd S ed => k2 ?_ d H' nd S ed
      cases q : btw v 1 56 with
      | false => rfl
      | true => rw [q] at hb; cases hb
    · obtain ⟨n, rfl, h1, h2⟩ := btw_yes (v := v) (lo := 1) (hi := 56) (by
        cases q : btw v 1 56 with
        | true => rfl
        | false => rw [q] at hb; cases hb)
      have z := pow_le60 (b := 2) (by decide) (by decide) (i := n.toNat) (by omega)
      fail "z run"
      refine ⟨rfl, ?_⟩
      fail "z run"
      simp only [Int.one_mul]
      refine rd_Kind (by omega) (by omega) fun x H' nx S ik => ?_
      exact k1 n rfl h1 h2 x H' nx S ik
theorem ok_digits {f C CB CW C_BadBits : Addr} {tb td tf : Tok} {fd : FuncData} (F : Fun K "digits" "Kind.digits" s_Kind_digits f fd) (TB : TxtB mg tb td tf) (ET_BadBits : ErrT K mg CW C_BadBits "BadBits") (c_btw : Cal P w K mg base 2 "is_between" P_is_between spBtw) (c_bad : CalE P w K mg base C_BadBits P_BadBits___init__ (spBad C_BadBits)) (c_kind : CalK P w K mg base C CB) (c_ten : Cal P w K mg base 1 "_power_of_ten" P__power_of_ten (spPowN 10)) :
    FnOk P w K mg base (L2N.CX P w) 5 f fd P_Kind_digits (spClsN C C_BadBits 17 (fun _ => 0) fun n => 10 ^ n.toNat - 1) := by
  obtain ⟨f_b, fd_b, G_is_between, b_is_between, g_is_between, k_is_between⟩ := c_btw
  obtain ⟨f_e, fd_e, i_BadBits, t_BadBits, G_BadBits, b_BadBits⟩ := c_bad
  obtain ⟨f_kind, fd_kind, mk_Kind, G_Kind, b_Kind, g_Kind⟩ := c_kind
  obtain ⟨f_t, fd_t, G__power_of_ten, b__power_of_ten, g__power_of_ten, k__power_of_ten⟩ := c_ten
  have g_BadBits := ET_BadBits.g
  refine Fun_okN F sc_Kind_digits (fun vs H Q E h => ?_) (fun cdv A outer s H vs Q E hr h => ?_)
  · obtain ⟨v, rfl, _⟩ := h
    rfl
  · obtain ⟨v, rfl, p, k1, k2⟩ := h
    refine ⟨_, (pss_cons (ps_if (pt_not (pt_val (pe_call G_is_between (hr.mono (by decide)) rfl g_is_between k_is_between b_is_between .nil pass0 (pa_cons (pv 1) (pa_cons pe_int (pa_cons (pe_glob (v := .int 17) rfl TB.g_MOST_DIGITS ⟨_, rfl⟩) pa_nil)))))) (pss_one (L2N.ps_raise rfl (L2N.takes_of rfl rfl rfl rfl) (pmkN_oex ET_BadBits.ox i_BadBits t_BadBits G_BadBits (hr.mono (by decide)) b_BadBits .nil pass0 rfl g_BadBits (pa_cons (pv 1) pa_nil)))) pss_nil)
      (pss_one (ps_ret (pe_makeL (pv 0) mk_Kind G_Kind (hr.mono (by decide)) b_Kind passN (pa_cons pe_int (pa_cons (pe_op op_sub (pe_call G__power_of_ten (hr.mono (by decide)) rfl g__power_of_ten k__power_of_ten b__power_of_ten .nil pass0 (pa_cons (pv 1) pa_nil)) pe_int) pa_nil)))))), ?_⟩
    unfold tMakeL tMkO
    fail "z run"
    refine ⟨_, _, _, rfl, p, ?_⟩
    fail "z run"
    refine rd_iteB (fun hb => ?_) (fun hb => ?_)
    · fail "z run"
      refine rd_bad fun d H' nd S ed => k2 ?_ d H' nd S ed
      cases q : btw v 1 17 with
      | false => rfl
      | true => rw [q] at hb; cases hb
    · obtain ⟨n, rfl, h1, h2⟩ := btw_yes (v := v) (lo := 1) (hi := 17) (by
        cases q : btw v 1 17 with
        | true => rfl
        | false => rw [q] at hb; cases hb)
      have z := pow_le60 (b := 10) (by decide) (by decide) (i := n.toNat) (by omega)
      fail "z run"
      refine ⟨rfl, ?_⟩
      fail "z run"
      refine ⟨n, rfl, by omega, by omega, ?_⟩
      fail "z run"
      refine rd_Kind (by omega) (by omega) fun x H' nx S ik => ?_
      exact k1 n rfl h1 h2 x H' nx S ik
structure KindO (K : PySem.W.Frag) (C : Addr) : Prop where
  ic : C8.InsC K C
  sf : PySem.W.selfFirst K C = true
  ne : PySem.W.findIn K (.ref C) "__ne__" = some (some (.builtin "object.__ne__"))
theorem lt_units {n : Nat} (h : n + 64 < cLine) : n + 1 < cLine := by omega
theorem rd_isOwn {K : PySem.W.Frag} {H : Hp} {Q : VK} {C a : Addr} {lo hi : Int} (o : KindO K C) (h : IsKind C H a lo hi) (k : Q (.bl true) H) : rIsi K [.ref a, .ref C] H Q := by
  obtain ⟨dx, e⟩ := h
  exact ⟨.ref a, .ref C, _, _, true, rfl, .own C, .base (.ins e o.ic.cl o.ic.ha o.ic.hn o.ic.htk o.ic.hm), o.ic.me, k⟩
theorem rd_own {C a b : Addr} {sp : Sp} {E : XK} {H : Hp} {Q : VK} {lo hi lo2 hi2 : Int} (h : IsKind C H a lo hi) (h2 : IsKind C H b lo2 hi2) (k : sp [.ref a, .ref b] H Q E) : rOwnI C sp E (.ref a) (.ref b) H Q := by
  obtain ⟨dx, e⟩ := h
  obtain ⟨dy, e2⟩ := h2
  exact ⟨a, dx, _, b, dy, _, rfl, rfl, e, e2, k⟩
theorem rd_ownNe {C a b : Addr} {sp : Sp} {E : XK} {H : Hp} {Q : VK} {lo hi lo2 hi2 : Int} (h : IsKind C H a lo hi) (h2 : IsKind C H b lo2 hi2) (k : sp [.ref a, .ref b] H (fun z H' => ∃ c, z = .bl c ∧ Q (.bl (!c)) H') E) : rNeI C sp E (.ref a) (.ref b) H Q := by
  obtain ⟨dx, e⟩ := h
  obtain ⟨dy, e2⟩ := h2
  exact ⟨a, dx, _, b, dy, _, rfl, rfl, e, e2, k⟩
theorem rd_both {c d : Bool} {σ : L2.St} {H : Hp} {Q : VK} {tb : TE} (h : ∀ Q' : VK, Q' (.bl d) H → tb σ H Q') (k : Q (.bl (c && d)) H) : if c = true then tb σ H Q else Q (.bl false) H := by
  cases c with
  | true => exact iteT (h Q k)
  | false => exact iteF k
theorem dec_int {a b : Int} : decide (V.int a = V.int b) = decide (a = b) := by
  by_cases q : a = b
  · rw [q]
    simp
  · rw [decide_eq_false q, decide_eq_false fun z => q (V.int.inj z)]
def CalN (P : Program) (w : World) (K : PySem.W.Frag) (mg : Str → Option Value) (base : Heap) (C : Addr) (k : Nat) (m : Str) (ps : List Str) (sp : Sp) : Prop :=
  ∃ (f : Addr) (fd : FuncData), Meth K C m f ∧ FnOk P w K mg base CX0 k f fd ps sp ∧ Binds K fd ps []
def eqB (a b c d : Int) : Bool := decide (a = c) && decide (b = d)
def spCmp (C : Addr) (R : Int → Int → Int → Int → Bool) : Sp := fun vs H Q _ => ∃ (p q : Addr) (a b c d : Int), vs = [.ref p, .ref q] ∧ IsKind C H p a b ∧ IsKind C H q c d ∧ Q (.bl (R a b c d)) H
theorem ok_eq {f C : Addr} {fd : FuncData} (F : Fun K "__eq__" "Kind.__eq__" s_Kind___eq__ f fd) (T : Txt mg) (KT : KindT K C) (KO : KindO K C) (g_Kind : mg "Kind" = some (.ref C)) : FnOk P w K mg base CX0 1 f fd P_Kind___eq__ (spCmp C eqB) := by
  refine F.ok sc_Kind___eq__ (fun vs H Q E h => ?_) (fun cdv A outer s H vs Q E hr h => ?_)
  · obtain ⟨p, q, a, b, c, d, rfl, _⟩ := h
    rfl
  · obtain ⟨p, q, a, b, c, d, rfl, hp, hq, k⟩ := h
    obtain ⟨dx, ep⟩ := id hp
    obtain ⟨dy, eq⟩ := id hq
    refine ⟨_, (pss_one (ps_ret (pe_and (pe_callB call_isi (by rfl) T.n_isinstance (by decide +kernel) (pa_cons (pv 1) (pa_cons (pe_glob (v := .ref C) rfl g_Kind rfl) pa_nil))) (pe_and (pe_cmpR op_eq (pe_fld (pv 0) rfl) (pe_fld (pv 1) rfl) (nomark _)) (pe_one (pe_cmpR op_eq (pe_fld (pv 0) rfl) (pe_fld (pv 1) rfl) (nomark _))))))), ?_⟩
    fail "z run"
    refine rd_isOwn KO hq ?_
    fail "z run"
    refine ⟨_, _, _, _, _, rfl, ep, KT.cl, KT.n_low, kf_low _ _, ?_⟩
    fail "z run"
    refine ⟨_, _, _, _, _, rfl, eq, KT.cl, KT.n_low, kf_low _ _, ?_⟩
    fail "z run"
    refine rd_both (d := decide (b = d)) (fun Q' k' => ?_) ?_
    · fail "z run"
      refine ⟨_, _, _, _, _, rfl, ep, KT.cl, KT.n_high, kf_high _ _, ?_⟩
      fail "z run"
      refine ⟨_, _, _, _, _, rfl, eq, KT.cl, KT.n_high, kf_high _ _, ?_⟩
      fail "z run"
      rw [dec_int]
      exact k'
    · rw [dec_int]
      exact k
def spStr (C : Addr) : Sp := fun vs H Q _ => ∃ (p : Addr) (a b : Int), vs = [.ref p] ∧ IsKind C H p a b ∧ -(2 ^ 200) < a ∧ a < 2 ^ 200 ∧ -(2 ^ 200) < b ∧ b < 2 ^ 200 ∧ ∀ t : Str, cl t = cl (tx a) ++ 46 :: 46 :: cl (tx b) → Q (.str t) H
theorem int_len {i : Int} (h1 : -(2 ^ 200) < i) (h2 : i < 2 ^ 200) : i.natAbs.log2 < 1920 ∧ (Str.ofString (toString i)).length ≤ 250 := by
  have l := log_of h1 h2
  have t := int_text_length_le (k := 200) (by decide) l
  refine ⟨by omega, ?_⟩
  rw [PySem.ofString_length]
  omega
theorem ok_str {f C : Addr} {fd : FuncData} (F : Fun K "__str__" "Kind.__str__" s_Kind___str__ f fd) (KT : KindT K C) : FnOk P w K mg base CX0 1 f fd P_Kind___str__ (spStr C) := by
  refine F.ok sc_Kind___str__ (fun vs H Q E h => ?_) (fun cdv A outer s H vs Q E hr h => ?_)
  · obtain ⟨p, a, b, rfl, _⟩ := h
    rfl
  · obtain ⟨p, a, b, rfl, ⟨dx, e⟩, a1, a2, b1, b2, k⟩ := h
    refine ⟨_, (pss_one (ps_ret (pe_joined (.cons (pe_fmt (pe_fld (pv 0) rfl)) (.cons pe_str (.cons (pe_fmt (pe_fld (pv 0) rfl)) .nil)))))), ?_⟩
    obtain ⟨x1, x2⟩ := int_len a1 a2
    obtain ⟨y1, y2⟩ := int_len b1 b2
    have sz := sizeLine_eq
    fail "z run"
    unfold tJs tFmt
    fail "z run"
    refine ⟨_, _, _, _, _, rfl, e, KT.cl, KT.n_low, kf_low _ _, .inr ⟨a, rfl, x1, _, rfl, ?_, ?_⟩⟩
    · rw [Str.length_append]
      show 0 + _ ≤ _
      omega
    · unfold tJs
      fail "z run"
      refine ⟨_, rfl, ?_, ?_⟩
      · rw [Str.length_append, Str.length_append]
        show 0 + _ + 2 ≤ _
        omega
      · unfold tJs
        fail "z run"
        refine ⟨_, _, _, _, _, rfl, e, KT.cl, KT.n_high, kf_high _ _, .inr ⟨b, rfl, y1, _, rfl, ?_, ?_⟩⟩
        · rw [Str.length_append, Str.length_append, Str.length_append]
          show 0 + _ + 2 + _ ≤ _
          omega
        · refine k _ ?_
          rw [cl_app, cl_app, cl_app]
          show ([] ++ cl (tx a)) ++ cl ".." ++ cl (tx b) = _
          rw [cl_dots]
          simp
/-! numbers and kinds of texts -/
def optV : Option Int → V
  | none => .non
  | some n => .int n
theorem optV_plain {H : Hp} {o : Option Int} : Plain H (optV o) := by
  cases o with
  | none => exact .non
  | some n => exact .int n
def spReadInt : Sp := fun vs H Q _ => ∃ x : Str, vs = [.str x] ∧ x.length ≤ 300 ∧ Q (optV (num (cl x))) H
theorem fig_len (l : List Nat) : (fig l).length ≤ l.length := by
  unfold fig
  split
  · rw [List.length_tail]
    omega
  · exact Nat.le_refl _
theorem ok_readint {f : Addr} {fd : FuncData} {tb td tf : Tok} (F : Fun K "read_integer" "read_integer" s_read_integer f fd) (T : Txt mg) (TB : TxtB mg tb td tf) : FnOk P w K mg base CX0 1 f fd P_read_integer spReadInt := by
  refine F.ok sc_read_integer (fun vs H Q E h => ?_) (fun cdv A outer s H vs Q E hr h => ?_)
  · obtain ⟨x, rfl, _⟩ := h
    rfl
  · obtain ⟨x, rfl, len, k⟩ := h
    have sz := sizeLine_eq
    refine ⟨_, (pss_cons (ps_set (i := 1) sc_read_integer.nd rfl (Or.inl rfl) (pe_m1 PySem.F.slot_str_removeprefix PySem.F.type_str_removeprefix mt_removeprefix (pv 0) pe_str))
      (pss_cons (ps_if (PW.pt (pw_or (pt_not (pt_val (pe_m0 PySem.F.slot_str_isascii PySem.F.type_str_isascii mt_isascii (pv 1)))) (pw_or1 (pt_not (pt_val (pe_m0 PySem.F.slot_str_isdigit PySem.F.type_str_isdigit mt_isdigit (pv 1))))))) (pss_one (ps_ret pe_non)) pss_nil)
      (pss_cons (ps_if (pt_cmpR op_gt (pe_callB call_len_str (by rfl) T.n_len (by decide +kernel) (pa_cons (pv 1) pa_nil)) (pe_glob (v := .int 18) rfl TB.g_MOST_FIGURES ⟨_, rfl⟩) (nomark _)) (pss_one (ps_ret pe_non)) pss_nil)
      (pss_cons (ps_if (PW.pt (pw_and (pt_val (pe_m1 PySem.F.slot_str_startswith PySem.F.type_str_startswith mt_startswith (pv 1) pe_str)) (pw_and1 (pt_cmpR op_ne (pv 0) pe_str (nomark _))))) (pss_one (ps_ret pe_non)) pss_nil)
      (pss_one (ps_ret (pe_callTy call_int_str (by rfl) T.n_int (by decide +kernel) (pa_cons (pv 0) pa_nil)))))))), ?_⟩
    unfold tM1 tM0
    fail "z run"
    refine ⟨⟨_, rfl⟩, ?_⟩
    fail "z run"
    refine ⟨_, _, rfl, rfl, by omega, ?_⟩
    have hy := fig_prefix x
    have ly : (Txt.removeprefix x "-").length ≤ 300 := by
      rw [cl_len, hy]
      have := fig_len (cl x)
      rw [cl_len] at len
      omega
    generalize Txt.removeprefix x "-" = y at *
    fail "z run"
    refine ⟨⟨_, rfl⟩, _, rfl, rfl, trivial, ?_⟩
    fail "z run"
    refine rd_iteB (fun a1 => ?_) (fun a1 => ?_)
    · fail "z run"
      rw [num_bad hy (by cases q : Txt.isascii y with | true => rw [q] at a1; cases a1 | false => rfl)] at k
      exact k
    fail "z run"
    refine ⟨⟨_, rfl⟩, _, rfl, rfl, trivial, ?_⟩
    fail "z run"
    refine rd_iteB (fun a2 => ?_) (fun a2 => ?_)
    · fail "z run"
      rw [num_bad hy (by cases q : Txt.isdigit y with | true => rw [q] at a2; cases a2 | false => exact Bool.and_false _)] at k
      exact k
    have good : (Txt.isascii y && Txt.isdigit y) = true := by
      cases q : Txt.isascii y with
      | false => rw [q] at a1; cases a1
      | true =>
        cases q2 : Txt.isdigit y with
        | false => rw [q2] at a2; cases a2
        | true => rfl
    fail "z run"
    refine ⟨_, rfl, by omega, ?_⟩
    fail "z run"
    refine rd_ite (fun c => ?_) (fun c => ?_)
    · fail "z run"
      rw [num_long hy (by omega)] at k
      exact k
    fail "z run"
    refine ⟨⟨_, rfl⟩, ?_⟩
    fail "z run"
    refine ⟨_, _, rfl, rfl, ?_⟩
    fail "z run"
    have fin : Txt.startswith y "0" = false ∨ cl x = [48] → (∀ n, intText? x = some n → Q (.int n) H → Q (.int n) H) → ∃ n, intText? x = some n ∧ Q (.int n) H := fun h _ => by
      obtain ⟨n, e1, e2⟩ := num_good hy good (by omega) h
      rw [e1] at k
      exact ⟨n, e2, k⟩
    refine rd_iteB (fun a3 => ?_) (fun a3 => ?_)
    · fail "z run"
      rw [str_eq, cl_zero]
      refine rd_iteN (fun c => ?_) (fun c => ?_)
      · fail "z run"
        rw [num_lead hy a3 c] at k
        exact k
      · fail "z run"
        obtain ⟨n, e1, e2⟩ := fin (.inr c) fun _ _ h => h
        exact ⟨_, n, rfl, e1, by omega, e2⟩
    · fail "z run"
      obtain ⟨n, e1, e2⟩ := fin (.inl a3) fun _ _ h => h
      exact ⟨_, n, rfl, e1, by omega, e2⟩
/-! ### k04: a kind read of a text -/
theorem rd_isiS {H : Hp} {Q : VK} {v : V} (p : Plain H v) (k1 : ∀ x, v = .str x → Q (.bl true) H) (k2 : (∀ x, v ≠ .str x) → Q (.bl false) H) : rIsi K [v, .ty "str"] H Q := by
  cases p with
  | non => exact rd_isi (.base .non) (by decide +kernel) (k2 fun x z => nomatch z)
  | bl b => exact rd_isi (.base (.bl b)) (by decide +kernel) (k2 fun x z => nomatch z)
  | int i => exact rd_isi (.base (.int i)) (by decide +kernel) (k2 fun x z => nomatch z)
  | str x => exact rd_isi (.base (.str x)) (by decide +kernel) (k1 x rfl)
  | lst e => exact rd_isi (.base (.lst e)) (by decide +kernel) (k2 fun x z => nomatch z)
  | tup e => exact rd_isi (.base (.tup e)) (by decide +kernel) (k2 fun x z => nomatch z)
  | dK e => exact rd_isi (.base (.dK e)) (by decide +kernel) (k2 fun x z => nomatch z)
def CalC (P : Program) (w : World) (K : PySem.W.Frag) (mg : Str → Option Value) (base : Heap) (CX : CXT) (C : Addr) (k : Nat) (m : Str) (ps : List Str) (sp : Sp) : Prop :=
  ∃ (q f : Addr) (fd : FuncData), ClX.CMet K C (.type "type") m q f ∧ FnOk P w K mg base CX k f fd ps sp ∧ Binds K fd ps []
abbrev sLo (n : Int) : Int := -(2 ^ (n - 1).toNat)
abbrev sHi (n : Int) : Int := 2 ^ (n - 1).toNat - 1
abbrev uLo (_ : Int) : Int := 0
abbrev uHi (n : Int) : Int := 2 ^ n.toNat - 1
abbrev dHi (n : Int) : Int := 10 ^ n.toNat - 1
def spRead (C CT : Addr) : Sp := fun vs H Q E => ∃ v, vs = [.ref C, v] ∧ Plain H v ∧ (∀ x, v = .str x → x.length ≤ 300) ∧
  (∀ x lo hi, v = .str x → rdKind x = some (lo, hi) → ∀ k H', Same H H' → IsKind C H' k lo hi → Q (.ref k) H') ∧
  ((∀ x, v = .str x → rdKind x = none) → ∀ d H', H d = none → Same H H' → H' d = some (.xd [("value", v)]) → E (.ref CT) (some d) H')
theorem exm_two {K : PySem.W.Frag} {c c1 c2 : Value} {b1 b2 : Bool} (h1 : PySem.W.exmOne K c c1 = some b1) (h2 : PySem.W.exmOne K c c2 = some b2) (h : (b1 || b2) = true) : PySem.W.exmAny K c [c1, c2] = some true := by
  simp only [PySem.W.exmAny, h1, h2, Bool.or_false, h]
theorem part_len (x y : Str) : (Txt.partition x y).1.length ≤ x.length ∧ (Txt.partition x y).2.2.length ≤ x.length := by
  have s := congrArg Str.length (StrLaws.partition_sum x y)
  rw [Str.length_append, Str.length_append] at s
  omega
theorem use_cls {C CB : Addr} {H : Hp} {Q : VK} {E : XK} {o : Option Int} {w : Str} {most : Int} {lo hi : Int → Int} (kw : ∀ n, kindOf w n = if 1 ≤ n ∧ n ≤ most then some (lo n, hi n) else none)
    (k1 : ∀ a b, o.bind (kindOf w) = some (a, b) → ∀ k H', Same H H' → IsKind C H' k a b → Q (.ref k) H')
    (k2 : o.bind (kindOf w) = none → ∀ d H', H d = none → Same H H' → E (.ref CB) (some d) H') : spClsN C CB most lo hi [.ref C, optV o] H Q E := by
  refine ⟨optV o, rfl, optV_plain, fun n e h1 h2 x H' nx S ik => ?_, fun hb d H' nd S ed => k2 ?_ d H' nd S⟩
  · cases o with
    | none => cases e
    | some m =>
      cases e
      exact k1 _ _ (by show kindOf w _ = _; rw [kw, if_pos ⟨h1, h2⟩]) x H' S ik
  · cases o with
    | none => rfl
    | some m =>
      show kindOf w m = none
      rw [kw, if_neg]
      rintro ⟨h1, h2⟩
      have z : (decide (1 ≤ m) && decide (m ≤ most)) = false := hb
      rw [decide_eq_true h1, decide_eq_true h2] at z
      cases z
theorem pair_no {a b : Option Int} (h : okK (optV a) (optV b) = false) : pair a b = none := by
  cases a with
  | none => cases b <;> rfl
  | some m => cases b with
    | none => rfl
    | some n =>
      have z : (decide (m ≤ 0) && decide (0 ≤ n)) = false := h
      show (if m ≤ 0 ∧ 0 ≤ n then some (m, n) else none) = none
      rw [if_neg]
      rintro ⟨h1, h2⟩
      rw [decide_eq_true h1, decide_eq_true h2] at z
      cases z
theorem pair_yes {a b : Option Int} {m n : Int} (ea : optV a = .int m) (eb : optV b = .int n) (h1 : m ≤ 0) (h2 : 0 ≤ n) : pair a b = some (m, n) := by
  cases a with
  | none => cases ea
  | some m' => cases b with
    | none => cases eb
    | some n' =>
      cases ea
      cases eb
      exact if_pos ⟨h1, h2⟩
theorem rd_word {x w : Str} (e : (Txt.partition x " ").1 = w) (h : isWord w) : rdKind x = (num (cl (Txt.partition x " ").2.2)).bind (kindOf w) := by
  subst e
  exact if_pos h
theorem rd_other {x : Str} (h : ¬isWord (Txt.partition x " ").1) : rdKind x = pairP x := if_neg h
theorem ok_read {f C CW C_BadBits C_BadKind C_BadText : Addr} {fd : FuncData} (F : Fun K "read" "Kind.read" s_Kind_read f fd) (T : Txt mg) (n_str : mg "str" = none) (ET_BadBits : ErrT K mg CW C_BadBits "BadBits") (ET_BadKind : ErrT2 K mg CW C_BadKind "BadKind" "one" "other") (ET_BadText : ErrT K mg CW C_BadText "BadText")
    (x11 : PySem.W.exmOne K (.ref C_BadBits) (.ref C_BadBits) = some true) (x12 : PySem.W.exmOne K (.ref C_BadBits) (.ref C_BadKind) = some false) (x21 : PySem.W.exmOne K (.ref C_BadKind) (.ref C_BadBits) = some false) (x22 : PySem.W.exmOne K (.ref C_BadKind) (.ref C_BadKind) = some true)
    (cr_Kind : ClX.CRead K C (.type "type")) (c_bad : CalE P w K mg base C_BadText P_BadText___init__ (spBad C_BadText)) (c_badH : CalEH P w K mg base C_BadText P_BadText___init__ (spBad C_BadText)) (c_int : Cal P w K mg base 1 "read_integer" P_read_integer spReadInt) (c_kind : CalK P w K mg base C C_BadKind)
    (c_s : CalC P w K mg base (L2N.CX P w) C 5 "signed" P_Kind_signed (spClsN C C_BadBits 56 sLo sHi)) (c_u : CalC P w K mg base (L2N.CX P w) C 5 "unsigned" P_Kind_unsigned (spClsN C C_BadBits 56 uLo uHi)) (c_d : CalC P w K mg base (L2N.CX P w) C 5 "digits" P_Kind_digits (spClsN C C_BadBits 17 uLo dHi)) :
    FnOk P w K mg base (L2.CX P w) 6 f fd P_Kind_read (spRead C C_BadText) := by
  obtain ⟨f_e, fd_e, i_BadText, t_BadText, G_BadText, b_BadText⟩ := c_bad
  obtain ⟨f_h, fd_h, iH_BadText, tH_BadText, GH_BadText, bH_BadText⟩ := c_badH
  obtain ⟨f_int, fd_int, G_read_integer, b_read_integer, g_read_integer, k_read_integer⟩ := c_int
  obtain ⟨f_kind, fd_kind, mk_Kind, G_Kind, b_Kind, g_Kind⟩ := c_kind
  obtain ⟨q_s, f_s, fd_s, cm_signed, G_Kind_signed, b_Kind_signed⟩ := c_s
  obtain ⟨q_u, f_u, fd_u, cm_unsigned, G_Kind_unsigned, b_Kind_unsigned⟩ := c_u
  obtain ⟨q_d, f_d, fd_d, cm_digits, G_Kind_digits, b_Kind_digits⟩ := c_d
  have g_BadText := ET_BadText.g
  refine F.okX sc_Kind_read (fun vs H Q E h => ?_) (fun cdv A outer s H vs Q E hr h => ?_)
  · obtain ⟨v, rfl, _⟩ := h
    rfl
  · obtain ⟨v, rfl, p, len, k1, k2⟩ := h
    have sz := sizeLine_eq
    refine ⟨_, (pss_cons (ps_if (pt_not (pt_val (pe_callB call_isi (by rfl) T.n_isinstance (by decide +kernel) (pa_cons (pv 1) (pa_cons (pe_bltn (v := .ty "str") (by rfl) n_str (by decide +kernel) rfl) pa_nil))))) (pss_one (ps_raise rfl (takes_of rfl rfl rfl rfl) (pmk_oex ET_BadText.ox i_BadText t_BadText G_BadText (hr.mono (by decide)) b_BadText .nil pass0 rfl g_BadText (pa_cons (pv 1) pa_nil)))) pss_nil)
      (pss_cons (ps_asg (pe_partition (pv 1) pe_str) (pg_tup rfl (pgs_cons (pg_name (i := 2) sc_Kind_read.nd rfl (Or.inl rfl)) (pgs_cons (pg_name (i := 3) sc_Kind_read.nd rfl (Or.inl rfl)) (pgs_cons (pg_name (i := 4) sc_Kind_read.nd rfl (Or.inl rfl)) pgs_nil)))))
      (pss_cons (ps_asg (pe_partition (pv 1) pe_str) (pg_tup rfl (pgs_cons (pg_name (i := 5) sc_Kind_read.nd rfl (Or.inl rfl)) (pgs_cons (pg_name (i := 3) sc_Kind_read.nd rfl (Or.inl rfl)) (pgs_cons (pg_name (i := 6) sc_Kind_read.nd rfl (Or.inl rfl)) pgs_nil)))))
       (pss_one (ps_try_two (Wout := fun cls d _ H => E cls d H) rfl rfl rfl rfl ET_BadBits.g ET_BadKind.g (by decide +kernel) (by decide +kernel) (L2H.passesAt_of rfl) (takes_of rfl rfl rfl rfl) (fun W pn xe tk => (pss_cons (ps_if (pt_cmpR op_eq (pv 2) pe_str (nomark _)) (pss_one (ps_ret (pe_cmethX (pv 0) cr_Kind cm_signed G_Kind_signed (hr.mono (by decide)) b_Kind_signed (fun σ => L2N.passAt tk σ) (pa_cons (pe_call G_read_integer (hr.mono (by decide)) rfl g_read_integer k_read_integer b_read_integer .nil pass0 (pa_cons (pv 4) pa_nil)) pa_nil)))) pss_nil)
      (pss_cons (ps_if (pt_cmpR op_eq (pv 2) pe_str (nomark _)) (pss_one (ps_ret (pe_cmethX (pv 0) cr_Kind cm_unsigned G_Kind_unsigned (hr.mono (by decide)) b_Kind_unsigned (fun σ => L2N.passAt tk σ) (pa_cons (pe_call G_read_integer (hr.mono (by decide)) rfl g_read_integer k_read_integer b_read_integer .nil pass0 (pa_cons (pv 4) pa_nil)) pa_nil)))) pss_nil)
      (pss_cons (ps_if (pt_cmpR op_eq (pv 2) pe_str (nomark _)) (pss_one (ps_ret (pe_cmethX (pv 0) cr_Kind cm_digits G_Kind_digits (hr.mono (by decide)) b_Kind_digits (fun σ => L2N.passAt tk σ) (pa_cons (pe_call G_read_integer (hr.mono (by decide)) rfl g_read_integer k_read_integer b_read_integer .nil pass0 (pa_cons (pv 4) pa_nil)) pa_nil)))) pss_nil)
      (pss_one (ps_ret (pe_makeLX (pv 0) mk_Kind G_Kind (hr.mono (by decide)) b_Kind (fun σ => L2N.passAt tk σ) (pa_cons (pe_call G_read_integer (hr.mono (by decide)) rfl g_read_integer k_read_integer b_read_integer .nil pass0 (pa_cons (pv 5) pa_nil)) (pa_cons (pe_call G_read_integer (hr.mono (by decide)) rfl g_read_integer k_read_integer b_read_integer .nil pass0 (pa_cons (pv 6) pa_nil)) pa_nil)))))))))
      (fun a oe cls d pn hz hf tkS hot => pss_one (L2H.ps_raiseHN hot tkS (L2H.pmk5_oexH ET_BadText.ox iH_BadText tH_BadText GH_BadText (L2H.roomH_mark (hr.mono (by decide)) _) hot bH_BadText pass0 rfl g_BadText (pa_cons (pv 1) pa_nil))))))))), ?_⟩
    unfold tMkO tM1 tCMethX tMakeLX
    fail "z run"
    refine rd_isiS p (fun x ex => ?_) (fun no => ?_)
    rotate_left
    · fail "z run"
      refine iteT ?_
      fail "z run"
      exact rd_bad fun d H' nd S ed => k2 (fun x e => absurd e (no x)) d H' nd S ed
    subst ex
    have lx := len x rfl
    obtain ⟨l1, l2⟩ := part_len x " "
    obtain ⟨l3, l4⟩ := part_len x ".."
    fail "z run"
    refine iteF ?_
    fail "z run"
    refine ⟨⟨_, rfl⟩, ?_⟩
    fail "z run"
    refine ⟨_, _, rfl, rfl, by decide +kernel, by omega, fun t1 n1 => ?_⟩
    refine rd_gtup upd_same rfl ?_
    fail "z run"
    refine ⟨⟨_, rfl⟩, ?_⟩
    fail "z run"
    refine ⟨_, _, rfl, rfl, by decide +kernel, by omega, fun t2 n2 => ?_⟩
    refine rd_gtup upd_same rfl ?_
    have S0 := (same_new (o := .tup [V.str (Txt.partition x " ").1, V.str (Txt.partition x " ").2.1, V.str (Txt.partition x " ").2.2]) n1).trans (same_new (o := .tup [V.str (Txt.partition x "..").1, V.str (Txt.partition x "..").2.1, V.str (Txt.partition x "..").2.2]) n2)
    generalize upd (upd H t1 _) t2 _ = H0 at *
    have bad : rdKind x = none → ∀ d H', H0 d = none → Same H0 H' → ∀ d2 H2, H' d2 = none → Same H' H2 → H2 d2 = some (.xd [("value", V.str x)]) → E (.ref C_BadText) (some d2) H2 := fun e d H' nd S d2 H2 nd2 S2 ed => by
      refine k2 (fun y ey => by cases ey; exact e) d2 H2 ?_ ((S0.trans S).trans S2) ed
      cases q : H d2 with
      | none => rfl
      | some o => rw [S _ _ (S0 _ _ q)] at nd2; cases nd2
    fail "z run"
    simp only [List.set_cons_succ, List.set_cons_zero]
    refine rd_ite (fun c => ?_) (fun c => ?_)
    · have ew : (Txt.partition x " ").1 = "signed" := V.str.inj c
      have er := rd_word ew (by exact .inl rfl)
      fail "z run"
      refine ⟨rfl, ?_⟩
      fail "z run"
      refine ⟨_, rfl, by omega, ?_⟩
      fail "z run"
      refine use_cls (w := "signed") (fun n => by unfold kindOf; rw [if_pos rfl]) (fun a b e k H' S ik => k1 x a b rfl (er.trans e) k H' (S0.trans S) ik) fun e d H' nd S => ⟨exm_two x11 x12 rfl, fun a na => ?_⟩
      fail "z run"
      exact rd_bad fun d2 H2 nd2 S2 ed => bad (er.trans e) d H' nd S d2 H2 nd2 S2 ed
    fail "z run"
    refine rd_ite (fun c => ?_) (fun c2 => ?_)
    · have ew : (Txt.partition x " ").1 = "unsigned" := V.str.inj c
      have er := rd_word ew (by exact .inr (.inl rfl))
      fail "z run"
      refine ⟨rfl, ?_⟩
      fail "z run"
      refine ⟨_, rfl, by omega, ?_⟩
      fail "z run"
      refine use_cls (w := "unsigned") (fun n => by unfold kindOf; rw [if_neg (by decide +kernel), if_pos rfl]) (fun a b e k H' S ik => k1 x a b rfl (er.trans e) k H' (S0.trans S) ik) fun e d H' nd S => ⟨exm_two x11 x12 rfl, fun a na => ?_⟩
      fail "z run"
      exact rd_bad fun d2 H2 nd2 S2 ed => bad (er.trans e) d H' nd S d2 H2 nd2 S2 ed
    fail "z run"
    refine rd_ite (fun c => ?_) (fun c3 => ?_)
    · have ew : (Txt.partition x " ").1 = "digits" := V.str.inj c
      have er := rd_word ew (by exact .inr (.inr rfl))
      fail "z run"
      refine ⟨rfl, ?_⟩
      fail "z run"
      refine ⟨_, rfl, by omega, ?_⟩
      fail "z run"
      refine use_cls (w := "digits") (fun n => by unfold kindOf; rw [if_neg (by decide +kernel), if_neg (by decide +kernel), if_pos rfl]) (fun a b e k H' S ik => k1 x a b rfl (er.trans e) k H' (S0.trans S) ik) fun e d H' nd S => ⟨exm_two x11 x12 rfl, fun a na => ?_⟩
      fail "z run"
      exact rd_bad fun d2 H2 nd2 S2 ed => bad (er.trans e) d H' nd S d2 H2 nd2 S2 ed
    fail "z run"
    have er : rdKind x = pairP x := rd_other (by
      rintro (z | z | z)
      · exact c (congrArg V.str z)
      · exact c2 (congrArg V.str z)
      · exact c3 (congrArg V.str z))
    refine ⟨rfl, ?_⟩
    fail "z run"
    refine ⟨_, rfl, by omega, ?_⟩
    fail "z run"
    refine ⟨_, rfl, by omega, ?_⟩
    fail "z run"
    refine rd_KindA optV_plain optV_plain (fun a b ea eb a0 b0 k H' nk S ik => k1 x a b rfl (er.trans (pair_yes ea eb a0 b0)) k H' (S0.trans S) ik) fun no d H' nd S ed => ⟨exm_two x21 x22 rfl, fun a na => ?_⟩
    fail "z run"
    exact rd_bad fun d2 H2 nd2 S2 ed => bad (er.trans (pair_no no)) d H' nd S d2 H2 nd2 S2 ed
/-! ### k04: the law's own reading -/
abbrev s__law_number : Stmt := (top 22)
abbrev N__law_number : List Str := ["_law_text_here", "_law_signs", "_law_sign"]
abbrev P__law_number : List Str := ["_law_text_here"]
theorem sc__law_number : FnScope N__law_number P__law_number (defScope s__law_number) := ⟨rfl, rfl, rfl, by decide +kernel, rfl, by decide +kernel, by decide +kernel⟩
abbrev s__law_half : Stmt := (top 24)
abbrev N__law_half : List Str := ["_law_many", "_law_found", "_law_lap"]
abbrev P__law_half : List Str := ["_law_many"]
theorem sc__law_half : FnScope N__law_half P__law_half (defScope s__law_half) := ⟨rfl, rfl, rfl, by decide +kernel, rfl, by decide +kernel, by decide +kernel⟩
abbrev s__law_ends : Stmt := (top 23)
abbrev N__law_ends : List Str := ["_law_text_here", "_law_words", "_law_many", "_law_parts", "_law_low", "_law_high"]
abbrev P__law_ends : List Str := ["_law_text_here"]
theorem sc__law_ends : FnScope N__law_ends P__law_ends (defScope s__law_ends) := ⟨rfl, rfl, rfl, by decide +kernel, rfl, by decide +kernel, by decide +kernel⟩

theorem lc_str {x : Str} {g : TG} {tt : TT} {te : TE} {vs : List Nat} {σ : L2.St} {H1 : Hp} {D : Addr} {Qd : Hp → Prop} (Pv : Nat → Hp → Prop) (h0 : Pv 0 (upd H1 D (.lst [])))
    (hs : ∀ i c H, (cl x)[i]? = some c → Pv i H → g (.str ⟨#[c]⟩) (wipe σ vs) H fun σ2 H2 => wipe σ2 vs = wipe σ vs ∧ tt σ2 H2 fun b H3 =>
      if b = true then te σ2 H3 fun y H4 => ∃ acc, H4 D = some (.lst acc) ∧ acc.length < sizeLine ∧ Pv (i + 1) (upd H4 D (.lst (acc ++ [y]))) else Pv (i + 1) H3) (hd : ∀ H, Pv (cl x).length H → Qd H) :
    ∃ W : Nat → Nat → Hp → Prop, (∃ m, W 0 m (upd H1 D (.lst []))) ∧ ∀ i m H, W i m H →
      ((Its x).stop i H ∧ Qd H) ∨ ((Its x).go i H ∧ ∃ Nx : Hp → Prop, (∀ H', Nx H' → ∃ m', m' < m ∧ W (i + 1) m' H') ∧ ∀ v H', (Its x).yld i H v H' → g v (wipe σ vs) H' fun σ2 H2 => wipe σ2 vs = wipe σ vs ∧ tt σ2 H2 fun b H3 =>
        if b = true then te σ2 H3 fun y H4 => ∃ acc, H4 D = some (.lst acc) ∧ acc.length < sizeLine ∧ Nx (upd H4 D (.lst (acc ++ [y]))) else Nx H3) := by
  have sz : x.cps.size = (cl x).length := by simp [cl]
  refine ⟨fun i m H => m = (cl x).length - i ∧ i ≤ (cl x).length ∧ Pv i H, ⟨(cl x).length, by simp, Nat.zero_le _, h0⟩, ?_⟩
  rintro i m H ⟨rfl, hi, p⟩
  by_cases hlt : i < (cl x).length
  · refine .inr ⟨(by show i < x.cps.size; rw [sz]; exact hlt), Pv (i + 1), fun H' p' => ⟨(cl x).length - (i + 1), by omega, rfl, hlt, p'⟩, fun v H' y => ?_⟩
    obtain ⟨e, c, hc, y⟩ := y
    subst e y
    exact hs i c _ (by rw [← hc]; simp [cl]) p
  · have e : i = (cl x).length := by omega
    subst e
    exact .inl ⟨(by show x.cps.size ≤ _; rw [sz]; exact Nat.le_refl _), hd H p⟩
theorem rd_iS {te : TE} {σ : L2.St} {H : Hp} {R : It → Hp → Prop} (k : te σ H fun v H1 => ∃ x, v = .str x ∧ R (Its x) H1) : iStr te σ H R := k
theorem cut_tail (x : Str) : cl (cutS x (some 1) none) = (cl x).drop 1 := by
  show cl ⟨_⟩ = _
  rw [cl_mk]
  show List.take (HT.sIx x.length x.length none - HT.sIx x.length 0 (some 1)) (List.drop (HT.sIx x.length 0 (some 1)) (cl x)) = _
  have e1 : HT.sIx x.length x.length none = x.length := rfl
  have e2 : HT.sIx x.length 0 (some 1) = min 1 x.length := rfl
  rw [e1, e2, cl_len]
  cases cl x with
  | nil => rfl
  | cons c r =>
    rw [show min 1 (c :: r).length = 1 by simp]
    exact List.take_of_length_le (by simp)
theorem cut_head (x : Str) : cl (cutS x none (some 1)) = (cl x).take 1 := by
  show cl ⟨_⟩ = _
  rw [cl_mk]
  show List.take (HT.sIx x.length x.length (some 1) - HT.sIx x.length 0 none) (List.drop (HT.sIx x.length 0 none) (cl x)) = _
  have e1 : HT.sIx x.length 0 none = 0 := rfl
  have e2 : HT.sIx x.length x.length (some 1) = min 1 x.length := rfl
  rw [e1, e2, cl_len]
  cases cl x with
  | nil => rfl
  | cons c r =>
    rw [show min 1 (c :: r).length = 1 by simp]
    rfl
theorem dig_in (c : Nat) : (!(Builtin.Str.occurrences "0123456789" ⟨#[c]⟩ 0 ("0123456789" : Str).length 1).isEmpty) = dig c := by
  rw [StrLaws.found_one]
  have e : ("0123456789" : Str).cps.toList = [48, 49, 50, 51, 52, 53, 54, 55, 56, 57] := by decide +kernel
  rw [e]
  unfold dig
  rw [← Bool.decide_and]
  refine decide_eq_decide.mpr ?_
  simp only [List.mem_cons, List.not_mem_nil, or_false]
  omega
def spNum : Sp := fun vs H Q _ => ∃ x : Str, vs = [.str x] ∧ x.length ≤ 300 ∧ ∀ H', Same H H' → Q (optV (num (cl x))) H'
theorem ok_number {f : Addr} {fd : FuncData} (F : Fun K "_law_number" "_law_number" s__law_number f fd) (T : Txt mg) : FnOk P w K mg base CX0 1 f fd P__law_number spNum := by
  refine F.ok sc__law_number (fun vs H Q E h => ?_) (fun cdv A outer s H vs Q E hr h => ?_)
  · obtain ⟨x, rfl, _⟩ := h
    rfl
  · obtain ⟨x, rfl, len, k⟩ := h
    have sz := sizeLine_eq
    refine ⟨_, (pss_cons (ps_set (i := 1) sc__law_number.nd rfl (Or.inl rfl) (pe_ifExp (pt_cmpR op_eq (pe_slice sl_str (pv 0) po_none (po_some pe_int)) pe_str (nomark _)) (pe_slice sl_str (pv 0) (po_some pe_int) po_none) (pv 0)))
      (pss_cons (ps_if (PW.pt (pw_or (pt_cmpR op_eq (pv 1) pe_str (nomark _)) (pw_or (pt_not (pt_val (pe_callB (cr_all rfl) (by rfl) T.n_all (by decide +kernel) (pa_cons (pe_lc (own := [("_law_sign", 2)]) (g := gName 2) (tt := tYes) rfl sc__law_number.nd (pi_str (pv 1)) (blkOk_by (N := N__law_number) (sc := defScope s__law_number) (by decide +kernel)) (fun _ _ _ _ _ => (pg_name (i := 2) sc__law_number.nd rfl (Or.inl rfl))) (fun _ _ _ _ _ => pts_nil) (fun _ _ _ _ _ => (pe_cmpR op_in_str (pv 2) pe_str rfl))) pa_nil)))) (pw_or1 (pt_cmpR op_gt (pe_callB call_len_str (by rfl) T.n_len (by decide +kernel) (pa_cons (pv 1) pa_nil)) pe_int (nomark _)))))) (pss_one (ps_ret pe_non)) pss_nil)
      (pss_cons (ps_if (PW.pt (pw_and (pt_cmpR op_eq (pe_ix ix_str (pv 1) pe_int (fun _ _ => rfl)) pe_str (nomark _)) (pw_and1 (PW.pt (pw_or (pt_cmpR op_gt (pe_callB call_len_str (by rfl) T.n_len (by decide +kernel) (pa_cons (pv 1) pa_nil)) pe_int (nomark _)) (pw_or1 (pt_cmpR op_eq (pe_ix ix_str (pv 0) pe_int (fun _ _ => rfl)) pe_str (nomark _)))))))) (pss_one (ps_ret pe_non)) pss_nil)
      (pss_one (ps_ret (pe_ifExp (pt_cmpR op_eq (pe_ix ix_str (pv 0) pe_int (fun _ _ => rfl)) pe_str (nomark _)) (pe_un un_neg (pe_callTy call_int_str (by rfl) T.n_int (by decide +kernel) (pa_cons (pv 1) pa_nil))) (pe_callTy call_int_str (by rfl) T.n_int (by decide +kernel) (pa_cons (pv 1) pa_nil)))))))), ?_⟩
    unfold tLc
    fail "z run"
    unfold tSl tNoPart tPart
    fail "z run"
    refine ⟨1, rfl, x, rfl, by omega, ?_⟩
    fail "z run"
    rw [str_eq, cl_dash, cut_head, take1]
    refine rd_iteB (fun neg => ?_) (fun neg => ?_)
    · fail "z run"
      refine ⟨1, rfl, ?_⟩
      fail "z run"
      refine ⟨x, rfl, by omega, ?_⟩
      fail "z run"
      have hy : cl (cutS x (some 1) none) = fig (cl x) := by
        rw [cut_tail, fig, if_pos neg, List.drop_one]
      generalize cutS x (some 1) none = y at *
      refine rd_ite (fun c => ?_) (fun c => ?_)
      · fail "z run"
        have e0 : fig (cl x) = [] := by
          rw [← hy, V.str.inj c]
          rfl
        have z := k _ (Same.refl H)
        rw [num_e1 e0] at z
        exact z
      obtain ⟨c0, r0, f0⟩ : ∃ c0 r0, cl y = c0 :: r0 := by
        cases q : cl y with
        | nil => exact absurd (congrArg V.str (cl_inj (q.trans rfl))) c
        | cons a b => exact ⟨a, b, rfl⟩
      obtain ⟨a0, s0, g0⟩ : ∃ a0 s0, cl x = a0 :: s0 := by
        cases q : cl x with
        | nil => rw [q] at hy; rw [hy] at f0; cases f0
        | cons a b => exact ⟨a, b, rfl⟩
      have nega : decide (a0 = 45) = isNeg (cl x) := by
        rw [g0]
        unfold isNeg
        by_cases q : a0 = 45
        · subst q
          rfl
        · rw [decide_eq_false q]
          simp [q]
      have ly : (cl y).length ≤ 300 := by
        rw [hy]
        have := fig_len (cl x)
        rw [cl_len] at len
        omega
      fail "z run"
      with_reducible refine rd_iS ?_
      fail "z run"
      refine ⟨_, rfl, fun D hD => lc_str (fun i H' => Same H H' ∧ H' D = some (.lst (((cl y).take i).map fun c => V.bl (dig c)))) ⟨same_new hD, upd_same⟩ ?_ ?_⟩
      · rintro i c1 H1 hc ⟨S1, hL⟩
        fail "z run"
        refine ⟨rfl, ?_⟩
        unfold tYes
        refine iteT ?_
        fail "z run"
        refine ⟨_, _, rfl, rfl, ?_⟩
        rw [dig_in]
        refine ⟨_, hL, ?_, fun b o e => (upd_ne (ne_of_none e hD)).trans (S1 _ _ e), ?_⟩
        · rw [List.length_map, List.length_take]
          omega
        · rw [List.take_succ, hc, List.map_append]
          exact upd_same
      rintro H1 ⟨S1, hL⟩
      rw [List.take_length] at hL
      fail "z run"
      refine ⟨D, (cl y).map dig, rfl, SqL.of (by rw [List.map_map]; exact hL), ?_⟩
      rw [show ((cl y).map dig).all id = (cl y).all dig by rw [List.all_map]; rfl]
      fail "z run"
      have done : ∀ o, num (cl x) = o → Q (optV o) H1 := fun o e => e ▸ k H1 S1
      cases al : (cl y).all dig with
      | false =>
        refine iteT ?_
        fail "z run"
        exact done none (num_e2 (by rw [← hy]; exact al))
      | true =>
        refine iteF ?_
        fail "z run"
        refine ⟨_, rfl, by rw [cl_len]; omega, ?_⟩
        fail "z run"
        refine rd_ite (fun c2 => ?_) (fun c2 => ?_)
        · fail "z run"
          exact done none (num_e3 (by rw [← hy]; rw [cl_len] at c2; omega))
        have l18 : (cl y).length ≤ 18 := by
          rw [cl_len] at c2
          omega
        have int := int_digits (y := y) (by rw [f0]; exact fun z => nomatch z) al l18
        have fin : (fig (cl x)).head? ≠ some 48 ∨ cl x = [48] → Q (.int (if isNeg (cl x) = true then -(NumText.digitsVal (cl y) : Int) else (NumText.digitsVal (cl y) : Int))) H1 := fun h => by
          have z := done _ (num_ok (by rw [← hy, f0]; exact fun z => nomatch z) (by rw [← hy]; exact al) (by rw [← hy]; exact l18) h)
          rw [← hy] at z
          exact z
        have last : ∀ R : Prop, R → R := fun _ h => h
        fail "z run"
        refine ⟨_, 0, c0, rfl, rfl, by rw [cl_len]; omega, atI_head f0, ?_⟩
        fail "z run"
        rw [one_eq c0 48 cl_zero]
        refine rd_ite (fun c3 => ?_) (fun c3 => ?_)
        · fail "z run"
          refine ⟨_, rfl, by rw [cl_len]; omega, ?_⟩
          fail "z run"
          refine rd_ite (fun c4 => ?_) (fun c4 => ?_)
          · fail "z run"
            refine done none (num_e4 (by rw [← hy, f0, c3]; rfl) fun z => ?_)
            rw [z] at hy
            rw [cl_len, hy] at c4
            revert c4
            decide
          · fail "z run"
            refine ⟨_, 0, a0, rfl, rfl, by rw [cl_len]; rw [cl_len] at len; omega, atI_head g0, ?_⟩
            fail "z run"
            rw [one_eq a0 45 cl_dash]
            refine rd_ite (fun c5 => ?_) (fun c5 => ?_)
            · fail "z run"
              refine done none (num_e4 (by rw [← hy, f0, c3]; rfl) fun z => ?_)
              rw [z] at g0
              cases g0
              cases c5
            · fail "z run"
              refine ⟨_, 0, a0, rfl, rfl, by rw [cl_len]; rw [cl_len] at len; omega, atI_head g0, ?_⟩
              fail "z run"
              rw [one_eq a0 45 cl_dash]
              refine rd_ite (fun c6 => absurd c6 c5) (fun _ => ?_)
              fail "z run"
              refine ⟨_, _, rfl, int, by rw [cl_len]; omega, ?_⟩
              rw [decide_eq_false c5] at nega
              have z := fin (.inr (by
                have e1 : r0 = [] := by
                  cases r0 with
                  | nil => rfl
                  | cons u v =>
                    rw [cl_len, f0] at c4
                    simp at c4
                    omega
                have e2 : fig (cl x) = cl x := by rw [fig, if_neg (by rw [← nega]; exact Bool.false_ne_true)]
                rw [← e2, ← hy, f0, e1, c3]))
              rw [← nega, if_neg Bool.false_ne_true] at z
              exact z
        · fail "z run"
          have hd : (fig (cl x)).head? ≠ some 48 := by
            rw [← hy, f0]
            exact fun z => c3 (Option.some.inj z)
          refine ⟨_, 0, a0, rfl, rfl, by rw [cl_len]; rw [cl_len] at len; omega, atI_head g0, ?_⟩
          fail "z run"
          rw [one_eq a0 45 cl_dash]
          refine rd_ite (fun c5 => ?_) (fun c5 => ?_)
          · fail "z run"
            refine ⟨_, _, rfl, int, by rw [cl_len]; omega, ?_⟩
            fail "z run"
            rw [decide_eq_true c5] at nega
            have z := fin (.inl hd)
            rw [← nega, if_pos rfl] at z
            exact z
          · fail "z run"
            refine ⟨_, _, rfl, int, by rw [cl_len]; omega, ?_⟩
            rw [decide_eq_false c5] at nega
            have z := fin (.inl hd)
            rw [← nega, if_neg Bool.false_ne_true] at z
            exact z
    · fail "z run"
      have hy : cl x = fig (cl x) := by
        rw [fig, if_neg (by rw [neg]; exact Bool.false_ne_true)]
      refine rd_ite (fun c => ?_) (fun c => ?_)
      · fail "z run"
        have e0 : fig (cl x) = [] := by
          rw [← hy, V.str.inj c]
          rfl
        have z := k _ (Same.refl H)
        rw [num_e1 e0] at z
        exact z
      obtain ⟨c0, r0, f0⟩ : ∃ c0 r0, cl x = c0 :: r0 := by
        cases q : cl x with
        | nil => exact absurd (congrArg V.str (cl_inj (q.trans rfl))) c
        | cons a b => exact ⟨a, b, rfl⟩
      obtain ⟨a0, s0, g0⟩ : ∃ a0 s0, cl x = a0 :: s0 := by
        cases q : cl x with
        | nil => rw [q] at f0; cases f0
        | cons a b => exact ⟨a, b, rfl⟩
      have nega : decide (a0 = 45) = isNeg (cl x) := by
        rw [g0]
        unfold isNeg
        by_cases q : a0 = 45
        · subst q
          rfl
        · rw [decide_eq_false q]
          simp [q]
      have ly : (cl x).length ≤ 300 := by
        rw [hy]
        have := fig_len (cl x)
        rw [cl_len] at len
        omega
      fail "z run"
      with_reducible refine rd_iS ?_
      fail "z run"
      refine ⟨_, rfl, fun D hD => lc_str (fun i H' => Same H H' ∧ H' D = some (.lst (((cl x).take i).map fun c => V.bl (dig c)))) ⟨same_new hD, upd_same⟩ ?_ ?_⟩
      · rintro i c1 H1 hc ⟨S1, hL⟩
        fail "z run"
        refine ⟨rfl, ?_⟩
        unfold tYes
        refine iteT ?_
        fail "z run"
        refine ⟨_, _, rfl, rfl, ?_⟩
        rw [dig_in]
        refine ⟨_, hL, ?_, fun b o e => (upd_ne (ne_of_none e hD)).trans (S1 _ _ e), ?_⟩
        · rw [List.length_map, List.length_take]
          omega
        · rw [List.take_succ, hc, List.map_append]
          exact upd_same
      rintro H1 ⟨S1, hL⟩
      rw [List.take_length] at hL
      fail "z run"
      refine ⟨D, (cl x).map dig, rfl, SqL.of (by rw [List.map_map]; exact hL), ?_⟩
      rw [show ((cl x).map dig).all id = (cl x).all dig by rw [List.all_map]; rfl]
      fail "z run"
      have done : ∀ o, num (cl x) = o → Q (optV o) H1 := fun o e => e ▸ k H1 S1
      cases al : (cl x).all dig with
      | false =>
        refine iteT ?_
        fail "z run"
        exact done none (num_e2 (by rw [← hy]; exact al))
      | true =>
        refine iteF ?_
        fail "z run"
        refine ⟨_, rfl, by rw [cl_len]; omega, ?_⟩
        fail "z run"
        refine rd_ite (fun c2 => ?_) (fun c2 => ?_)
        · fail "z run"
          exact done none (num_e3 (by rw [← hy]; rw [cl_len] at c2; omega))
        have l18 : (cl x).length ≤ 18 := by
          rw [cl_len] at c2
          omega
        have int := int_digits (y := x) (by rw [f0]; exact fun z => nomatch z) al l18
        have fin : (fig (cl x)).head? ≠ some 48 ∨ cl x = [48] → Q (.int (if isNeg (cl x) = true then -(NumText.digitsVal (cl x) : Int) else (NumText.digitsVal (cl x) : Int))) H1 := fun h => by
          have z := done _ (num_ok (by rw [← hy, f0]; exact fun z => nomatch z) (by rw [← hy]; exact al) (by rw [← hy]; exact l18) h)
          rw [← hy] at z
          exact z
        have last : ∀ R : Prop, R → R := fun _ h => h
        fail "z run"
        refine ⟨_, 0, c0, rfl, rfl, by rw [cl_len]; omega, atI_head f0, ?_⟩
        fail "z run"
        rw [one_eq c0 48 cl_zero]
        refine rd_ite (fun c3 => ?_) (fun c3 => ?_)
        · fail "z run"
          refine ⟨_, rfl, by rw [cl_len]; omega, ?_⟩
          fail "z run"
          refine rd_ite (fun c4 => ?_) (fun c4 => ?_)
          · fail "z run"
            refine done none (num_e4 (by rw [← hy, f0, c3]; rfl) fun z => ?_)
            rw [cl_len, z] at c4
            revert c4
            decide
          · fail "z run"
            refine ⟨_, 0, a0, rfl, rfl, by rw [cl_len]; rw [cl_len] at len; omega, atI_head g0, ?_⟩
            fail "z run"
            rw [one_eq a0 45 cl_dash]
            refine rd_ite (fun c5 => ?_) (fun c5 => ?_)
            · fail "z run"
              refine done none (num_e4 (by rw [← hy, f0, c3]; rfl) fun z => ?_)
              rw [z] at g0
              cases g0
              cases c5
            · fail "z run"
              refine ⟨_, 0, a0, rfl, rfl, by rw [cl_len]; rw [cl_len] at len; omega, atI_head g0, ?_⟩
              fail "z run"
              rw [one_eq a0 45 cl_dash]
              refine rd_ite (fun c6 => absurd c6 c5) (fun _ => ?_)
              fail "z run"
              refine ⟨_, _, rfl, int, by rw [cl_len]; omega, ?_⟩
              rw [decide_eq_false c5] at nega
              have z := fin (.inr (by
                have e1 : r0 = [] := by
                  cases r0 with
                  | nil => rfl
                  | cons u v =>
                    rw [cl_len, f0] at c4
                    simp at c4
                    omega
                have e2 : fig (cl x) = cl x := by rw [fig, if_neg (by rw [← nega]; exact Bool.false_ne_true)]
                rw [← e2, ← hy, f0, e1, c3]))
              rw [← nega, if_neg Bool.false_ne_true] at z
              exact z
        · fail "z run"
          have hd : (fig (cl x)).head? ≠ some 48 := by
            rw [← hy, f0]
            exact fun z => c3 (Option.some.inj z)
          refine ⟨_, 0, a0, rfl, rfl, by rw [cl_len]; rw [cl_len] at len; omega, atI_head g0, ?_⟩
          fail "z run"
          rw [one_eq a0 45 cl_dash]
          refine rd_ite (fun c5 => ?_) (fun c5 => ?_)
          · fail "z run"
            refine ⟨_, _, rfl, int, by rw [cl_len]; omega, ?_⟩
            fail "z run"
            rw [decide_eq_true c5] at nega
            have z := fin (.inl hd)
            rw [← nega, if_pos rfl] at z
            exact z
          · fail "z run"
            refine ⟨_, _, rfl, int, by rw [cl_len]; omega, ?_⟩
            rw [decide_eq_false c5] at nega
            have z := fin (.inl hd)
            rw [← nega, if_neg Bool.false_ne_true] at z
            exact z
/-! ### k04: the ends of a kind, as the law finds them -/
def spHalf : Sp := fun vs H Q _ => ∃ n : Int, vs = [.int n] ∧ 1 ≤ n ∧ n ≤ 60 ∧ Q (.int (2 ^ (n - 1).toNat)) H
theorem ok_half {f : Addr} {fd : FuncData} (F : Fun K "_law_half" "_law_half" s__law_half f fd) (T : Txt mg) : FnOk P w K mg base CX0 1 f fd P__law_half spHalf := by
  refine F.ok sc__law_half (fun vs H Q E h => ?_) (fun cdv A outer s H vs Q E hr h => ?_)
  · obtain ⟨n, rfl, _⟩ := h
    rfl
  · obtain ⟨n, rfl, n0, n1, k⟩ := h
    refine ⟨_, (pss_cons (ps_set (i := 1) sc__law_half.nd rfl (Or.inl rfl) pe_int)
      (pss_cons (ps_for PassesOwn.never rfl (pi_range1 rfl T.n_range (pa_cons (pe_op op_sub (pv 0) pe_int) pa_nil)) (pg_name (i := 2) sc__law_half.nd rfl (Or.inl rfl)) (pss_one (ps_set (i := 1) sc__law_half.nd rfl (Or.inl rfl) (pe_op op_add (pv 1) (pv 1)))))
      (pss_one (ps_ret (pv 1))))), ?_⟩
    fail "z run"
    with_reducible refine rd_for ?_
    with_reducible refine rd_rng1 ?_
    fail "z run"
    refine ⟨by omega, by omega, for_range (lo := 0) (fun i σ H' => ∃ v, σ = [some (.int n), some (.int (2 ^ i)), v] ∧ H' = H) ⟨none, rfl, rfl⟩ ?_ ?_⟩
    · rintro i σ H' hi ⟨v, rfl, rfl⟩
      fail "z run"
      have e : (2 : Int) ^ (i + 1) = 2 ^ i + 2 ^ i := by
        rw [Int.pow_succ]
        omega
      rw [e]
      exact ⟨_, rfl, rfl⟩
    · rintro σ H' ⟨v, rfl, rfl⟩
      fail "z run"
      exact k
def spEnds : Sp := fun vs H Q _ => ∃ x : Str, vs = [.str x] ∧ x.length ≤ 300 ∧ (rdKind x = none → ∀ H', Same H H' → Q .non H') ∧
  ∀ lo hi, rdKind x = some (lo, hi) → ∀ t H', Same H H' → H' t = some (.tup [.int lo, .int hi]) → Q (.ref t) H'
theorem beq_dec (a b : Str) : (a == b) = decide (b = a) := by
  by_cases q : b = a
  · subst q
    rw [decide_eq_true rfl]
    exact beq_self_eq_true _
  · rw [decide_eq_false q]
    exact beq_eq_false_iff_ne.mpr (Ne.symm q)
theorem in_three (w : Str) : inV (.str w) [.str "signed", .str "unsigned", .str "digits"] = decide (isWord w) := by
  show ((("signed" : Str) == w) || ((("unsigned" : Str) == w) || ((("digits" : Str) == w) || false))) = _
  rw [beq_dec, beq_dec, beq_dec, Bool.or_false, ← Bool.decide_or, ← Bool.decide_or]
  exact decide_eq_decide.mpr Iff.rfl
theorem pow_step {n : Int} (h : 1 ≤ n) : (2 : Int) ^ n.toNat = 2 * 2 ^ (n - 1).toNat := by
  obtain ⟨k, e⟩ : ∃ k : Nat, n = k + 1 := ⟨(n - 1).toNat, by omega⟩
  subst e
  rw [show ((k : Int) + 1).toNat = k + 1 by omega, show ((k : Int) + 1 - 1).toNat = k by omega, Int.pow_succ]
  omega
theorem ok_ends {f : Addr} {fd : FuncData} (F : Fun K "_law_ends" "_law_ends" s__law_ends f fd) (T : Txt mg) (c_num : Cal P w K mg base 1 "_law_number" P__law_number spNum) (c_half : Cal P w K mg base 1 "_law_half" P__law_half spHalf) : FnOk P w K mg base CX0 2 f fd P__law_ends spEnds := by
  obtain ⟨f_num, fd_num, G__law_number, b__law_number, g__law_number, k__law_number⟩ := c_num
  obtain ⟨f_half, fd_half, G__law_half, b__law_half, g__law_half, k__law_half⟩ := c_half
  refine F.ok sc__law_ends (fun vs H Q E h => ?_) (fun cdv A outer s H vs Q E hr h => ?_)
  · obtain ⟨x, rfl, _⟩ := h
    rfl
  · obtain ⟨x, rfl, len, k1, k2⟩ := h
    have sz := sizeLine_eq
    refine ⟨_, (pss_cons (ps_set (i := 1) sc__law_ends.nd rfl (Or.inl rfl) (pe_split (pv 0) pe_str))
      (pss_cons (ps_if (pt_cmpR op_eq (pe_callB call_len_seq (by rfl) T.n_len (by decide +kernel) (pa_cons (pv 1) pa_nil)) pe_int (nomark _)) (pss_cons (ps_set (i := 2) sc__law_ends.nd rfl (Or.inl rfl) (pe_call G__law_number (hr.mono (by decide)) rfl g__law_number k__law_number b__law_number .nil pass0 (pa_cons (pe_ix ix_list (pv 1) pe_int (fun _ _ => rfl)) pa_nil)))
      (pss_cons (ps_if (PW.pt (pw_or (pt_cmpR op_notIn_seq (pe_ix ix_list (pv 1) pe_int (fun _ _ => rfl)) (pe_tup (pa_cons pe_str (pa_cons pe_str (pa_cons pe_str pa_nil)))) rfl) (pw_or1 (pt_cmpR op_isN (pv 2) pe_non (nomark _))))) (pss_one (ps_ret pe_non)) pss_nil)
      (pss_cons (ps_if (pt_not (pt_chain op_le op_le pe_int (pv 2) (pe_ifExp (pt_cmpR op_eq (pe_ix ix_list (pv 1) pe_int (fun _ _ => rfl)) pe_str (nomark _)) pe_int pe_int))) (pss_one (ps_ret pe_non)) pss_nil)
      (pss_cons (ps_if (pt_cmpR op_eq (pe_ix ix_list (pv 1) pe_int (fun _ _ => rfl)) pe_str (nomark _)) (pss_one (ps_ret (pe_tup (pa_cons pe_int (pa_cons (pe_callTy call_int_str (by rfl) T.n_int (by decide +kernel) (pa_cons (pe_op op_repS pe_str (pv 2)) pa_nil)) pa_nil))))) pss_nil)
      (pss_one (ps_ret (pe_ifExp (pt_cmpR op_eq (pe_ix ix_list (pv 1) pe_int (fun _ _ => rfl)) pe_str (nomark _)) (pe_tup (pa_cons pe_int (pa_cons (pe_op op_sub (pe_op op_mul pe_int (pe_call G__law_half (hr.mono (by decide)) rfl g__law_half k__law_half b__law_half .nil pass0 (pa_cons (pv 2) pa_nil))) pe_int) pa_nil))) (pe_tup (pa_cons (pe_un un_neg (pe_call G__law_half (hr.mono (by decide)) rfl g__law_half k__law_half b__law_half .nil pass0 (pa_cons (pv 2) pa_nil))) (pa_cons (pe_op op_sub (pe_call G__law_half (hr.mono (by decide)) rfl g__law_half k__law_half b__law_half .nil pass0 (pa_cons (pv 2) pa_nil)) pe_int) pa_nil)))))))))) pss_nil)
      (pss_cons (ps_set (i := 3) sc__law_ends.nd rfl (Or.inl rfl) (pe_split (pv 0) pe_str))
      (pss_cons (ps_if (PW.pt (pw_or (pt_cmpR op_ne (pe_callB call_len_seq (by rfl) T.n_len (by decide +kernel) (pa_cons (pv 1) pa_nil)) pe_int (nomark _)) (pw_or1 (pt_cmpR op_ne (pe_callB call_len_seq (by rfl) T.n_len (by decide +kernel) (pa_cons (pv 3) pa_nil)) pe_int (nomark _))))) (pss_one (ps_ret pe_non)) pss_nil)
      (pss_cons (ps_par (i := 4) (j := 5) rfl sc__law_ends.nd rfl rfl (by decide) rfl rfl (pa_cons (pe_call G__law_number (hr.mono (by decide)) rfl g__law_number k__law_number b__law_number .nil pass0 (pa_cons (pe_ix ix_list (pv 3) pe_int (fun _ _ => rfl)) pa_nil)) (pa_cons (pe_call G__law_number (hr.mono (by decide)) rfl g__law_number k__law_number b__law_number .nil pass0 (pa_cons (pe_ix ix_list (pv 3) pe_int (fun _ _ => rfl)) pa_nil)) pa_nil)) (by rfl))
      (pss_one (ps_ret (pe_ifExp (PW.pt (pw_or (pt_cmpR op_isN (pv 4) pe_non (nomark _)) (pw_or (pt_cmpR op_isN (pv 5) pe_non (nomark _)) (pw_or1 (pt_not (pt_chain op_le op_le (pv 4) pe_int (pv 5))))))) pe_non (pe_tup (pa_cons (pv 4) (pa_cons (pv 5) pa_nil))))))))))), ?_⟩
    unfold tM1 rNewStrs
    fail "z run"
    refine ⟨⟨_, rfl⟩, ?_⟩
    fail "z run"
    refine ⟨_, _, rfl, rfl, by decide +kernel, by omega, fun p1 hp1 => ?_⟩
    have kx := kinds_eq x
    unfold lawKind at kx
    have j := StrLaws.join_split x " "
    have S1 := same_new (o := .lst (List.map V.str (Txt.split x " "))) hp1
    have b1 : upd H p1 (.lst (List.map V.str (Txt.split x " "))) p1 = some (.lst (List.map V.str (Txt.split x " "))) := upd_same
    generalize upd H p1 (.lst (List.map V.str (Txt.split x " "))) = H1 at *
    revert kx j b1
    generalize Txt.split x " " = L
    intro kx j b1
    fail "z run"
    match L, kx, j, b1 with
    | [], kx, j, b1 =>
      have kx : none = rdKind x := kx
      refine rd_ite (fun c => absurd (V.int.inj c) (by decide)) (fun _ => ?_)
      fail "z run"
      refine ⟨⟨_, rfl⟩, ?_⟩
      fail "z run"
      refine ⟨_, _, rfl, rfl, by decide +kernel, by omega, fun p2 hp2 => ?_⟩
      fail "z run"
      have b2 : upd H1 p2 (.lst (List.map V.str (Txt.split x ".."))) p1 = some (.lst (List.map V.str [])) := same_new hp2 _ _ b1
      refine rd_iteN (fun _ => ?_) (fun c => absurd (V.int.inj c) (by decide))
      fail "z run"
      exact k1 kx.symm _ (S1.trans (same_new hp2))
    | w :: m :: k :: r, kx, j, b1 =>
      have kx : none = rdKind x := kx
      refine rd_ite (fun c => absurd (V.int.inj c) (by simp; omega)) (fun _ => ?_)
      fail "z run"
      refine ⟨⟨_, rfl⟩, ?_⟩
      fail "z run"
      refine ⟨_, _, rfl, rfl, by decide +kernel, by omega, fun p2 hp2 => ?_⟩
      fail "z run"
      have b2 : upd H1 p2 (.lst (List.map V.str (Txt.split x ".."))) p1 = some (.lst (List.map V.str (w :: m :: k :: r))) := same_new hp2 _ _ b1
      refine rd_iteN (fun _ => ?_) (fun c => absurd (V.int.inj c) (by simp; omega))
      fail "z run"
      exact k1 kx.symm _ (S1.trans (same_new hp2))
    | [w], kx, j, b1 =>
      have kx : pairL (Txt.split x "..") = rdKind x := kx
      have b1 : H1 p1 = some (.lst [.str w]) := b1
      refine rd_ite (fun c => absurd (V.int.inj c) (by simp)) (fun _ => ?_)
      fail "z run"
      refine ⟨⟨_, rfl⟩, ?_⟩
      fail "z run"
      refine ⟨_, _, rfl, rfl, by decide +kernel, by omega, fun p2 hp2 => ?_⟩
      have j2 := StrLaws.join_split x ".."
      have S2 := S1.trans (same_new (o := .lst (List.map V.str (Txt.split x ".."))) hp2)
      have b2 : upd H1 p2 (.lst (List.map V.str (Txt.split x ".."))) p2 = some (.lst (List.map V.str (Txt.split x ".."))) := upd_same
      have b3 := same_new (o := .lst (List.map V.str (Txt.split x ".."))) hp2 _ _ b1
      generalize upd H1 p2 (.lst (List.map V.str (Txt.split x ".."))) = H2 at *
      revert kx j2 b2
      generalize Txt.split x ".." = M
      intro kx j2 b2
      fail "z run"
      refine rd_iteN (fun c => absurd rfl c) (fun _ => ?_)
      fail "z run"
      have none_ : pairL M = none → ∀ H', Same H H' → Q .non H' := fun q => k1 (kx.symm.trans q)
      match M, kx, j2, b2 with
      | [], kx, j2, b2 =>
        refine rd_iteN (fun _ => ?_) (fun c => absurd (V.int.inj c) (by decide))
        fail "z run"
        exact none_ rfl _ S2
      | [_], kx, j2, b2 =>
        refine rd_iteN (fun _ => ?_) (fun c => absurd (V.int.inj c) (by simp))
        fail "z run"
        exact none_ rfl _ S2
      | _ :: _ :: _ :: _, kx, j2, b2 =>
        refine rd_iteN (fun _ => ?_) (fun c => absurd (V.int.inj c) (by simp; omega))
        fail "z run"
        exact none_ rfl _ S2
      | [a, b], kx, j2, b2 =>
        have kx : pair (num (cl a)) (num (cl b)) = rdKind x := kx
        have b2 : H2 p2 = some (.lst [.str a, .str b]) := b2
        have hx : cl x = cl a ++ 46 :: 46 :: cl b := by
          rw [← j2, Str.join.eq_3 _ _ _ (fun z => by cases z), Str.join.eq_2, cl_app, cl_app, cl_dots]
          simp
        have la : a.length ≤ 300 ∧ b.length ≤ 300 := by
          rw [cl_len, cl_len]
          rw [cl_len, hx] at len
          simp at len
          omega
        refine rd_iteN (fun c => absurd rfl c) (fun _ => ?_)
        fail "z run"
        refine ⟨a, rfl, la.1, fun H3 S3 => ?_⟩
        have b3 := S3 _ _ b2
        fail "z run"
        refine ⟨b, rfl, la.2, fun H4 S4 => ?_⟩
        have S4 := S2.trans (S3.trans S4)
        fail "z run"
        cases ea : num (cl a) with
        | none =>
          rw [ea] at kx
          refine rd_ite (fun _ => ?_) (fun c => absurd rfl c)
          fail "z run"
          exact k1 (kx.symm.trans (by cases num (cl b) <;> rfl)) _ S4
        | some m =>
        rw [ea] at kx
        refine rd_ite (fun c => nomatch c) (fun _ => ?_)
        fail "z run"
        cases eb : num (cl b) with
        | none =>
          rw [eb] at kx
          refine rd_ite (fun _ => ?_) (fun c => absurd rfl c)
          fail "z run"
          exact k1 kx.symm _ S4
        | some n =>
        rw [eb] at kx
        have kx : (if m ≤ 0 ∧ 0 ≤ n then some (m, n) else none) = rdKind x := kx
        refine rd_ite (fun c => nomatch c) (fun _ => ?_)
        rw [show optV (some m) = V.int m from rfl, show optV (some n) = V.int n from rfl]
        fail "z run"
        refine rd_ite (fun c1 => ?_) (fun c1 => ?_)
        · fail "z run"
          refine rd_iteN (fun c2 => ?_) (fun c2 => ?_)
          rotate_left
          · skip
            fail "z run"
            intro t ht
            rw [if_pos ⟨c1, c2⟩] at kx
            exact k2 _ _ kx.symm t _ (S4.trans (same_new ht)) upd_same
          · skip
            fail "z run"
            rw [if_neg fun q => c2 q.2] at kx
            exact k1 kx.symm _ S4
        · fail "z run"
          refine iteT ?_
          fail "z run"
          rw [if_neg fun q => c1 q.1] at kx
          exact k1 kx.symm _ S4
    | [w, m], kx, j, b1 =>
      have kx : (num (cl m)).bind (kindOf w) = rdKind x := kx
      have b1 : H1 p1 = some (.lst [.str w, .str m]) := b1
      have hx : cl x = cl w ++ 32 :: cl m := by
        rw [← j, Str.join.eq_3 _ _ _ (fun z => by cases z), Str.join.eq_2, cl_app, cl_app, cl_blank]
        simp
      have lm : m.length ≤ 300 := by
        rw [cl_len] at len ⊢
        rw [hx] at len
        simp at len
        omega
      refine rd_ite (fun _ => ?_) (fun c => absurd rfl c)
      fail "z run"
      refine ⟨m, rfl, lm, fun H2 S2 => ?_⟩
      have b2 := S2 _ _ b1
      have S2 := S1.trans S2
      fail "z run"
      intro tt htt
      have b3 := same_new (o := .tup [.str "signed", .str "unsigned", .str "digits"]) htt _ _ b2
      have S3 := S2.trans (same_new (o := .tup [.str "signed", .str "unsigned", .str "digits"]) htt)
      refine ⟨tt, _, rfl, .inr (SqT.of upd_same), rfl, rfl, ?_⟩
      generalize upd H2 tt (.tup [.str "signed", .str "unsigned", .str "digits"]) = H3 at *
      rw [in_three, if_pos (show true = true from rfl)]
      fail "z run"
      by_cases q : isWord w
      · rw [decide_eq_true q]
        refine iteF ?_
        fail "z run"
        cases e : num (cl m) with
        | none =>
          rw [e] at kx
          refine rd_ite (fun _ => ?_) (fun c => absurd rfl c)
          fail "z run"
          exact k1 kx.symm _ S3
        | some n =>
        rw [e] at kx
        have kx : kindOf w n = rdKind x := kx
        refine rd_ite (fun c => nomatch c) (fun _ => ?_)
        rw [show optV (some n) = V.int n from rfl]
        fail "z run"
        rcases q with rfl | rfl | rfl
        · have ko : kindOf "signed" n = if 1 ≤ n ∧ n ≤ 56 then some (sLo n, sHi n) else none := by
            unfold kindOf
            rw [if_pos rfl]
          have no : ¬(1 ≤ n ∧ n ≤ 56) → ∀ H', Same H H' → Q .non H' := fun q => k1 (kx.symm.trans (ko.trans (if_neg q)))
          have yes : 1 ≤ n → n ≤ 56 → ∀ t H', Same H H' → H' t = some (.tup [.int (sLo n), .int (sHi n)]) → Q (.ref t) H' := fun q1 q2 => k2 _ _ (kx.symm.trans (ko.trans (if_pos ⟨q1, q2⟩)))
          refine rd_ite (fun c1 => ?_) (fun c1 => ?_)
          · fail "z run"
            refine rd_ite (fun c => absurd c (by decide +kernel)) (fun c => ?_)
            fail "z run"
            refine rd_iteN (fun c2 => ?_) (fun c2 => ?_)
            rotate_left
            · skip
              fail "z run"
              refine rd_ite (fun c => absurd c (by decide +kernel)) (fun c => ?_)
              fail "z run"
              refine rd_ite (fun c => absurd c (by decide +kernel)) (fun c => ?_)
              fail "z run"
              refine ⟨n, rfl, c1, by omega, ?_⟩
              fail "z run"
              refine ⟨n, rfl, c1, by omega, ?_⟩
              fail "z run"
              intro t ht
              exact yes c1 c2 t _ (S3.trans (same_new ht)) upd_same
            · skip
              fail "z run"
              exact no (fun q => c2 q.2) _ S3
          · fail "z run"
            refine iteT ?_
            fail "z run"
            exact no (fun q => c1 q.1) _ S3
        · have ko : kindOf "unsigned" n = if 1 ≤ n ∧ n ≤ 56 then some (uLo n, uHi n) else none := by
            unfold kindOf
            rw [if_neg (by decide +kernel), if_pos rfl]
          have no : ¬(1 ≤ n ∧ n ≤ 56) → ∀ H', Same H H' → Q .non H' := fun q => k1 (kx.symm.trans (ko.trans (if_neg q)))
          have yes : 1 ≤ n → n ≤ 56 → ∀ t H', Same H H' → H' t = some (.tup [.int (uLo n), .int (uHi n)]) → Q (.ref t) H' := fun q1 q2 => k2 _ _ (kx.symm.trans (ko.trans (if_pos ⟨q1, q2⟩)))
          refine rd_ite (fun c1 => ?_) (fun c1 => ?_)
          · fail "z run"
            refine rd_ite (fun c => absurd c (by decide +kernel)) (fun c => ?_)
            fail "z run"
            refine rd_iteN (fun c2 => ?_) (fun c2 => ?_)
            rotate_left
            · skip
              fail "z run"
              refine rd_ite (fun c => absurd c (by decide +kernel)) (fun c => ?_)
              fail "z run"
              refine rd_ite (fun c => ?_) (fun c => absurd rfl c)
              fail "z run"
              refine ⟨n, rfl, c1, by omega, ?_⟩
              fail "z run"
              intro t ht
              exact yes c1 c2 t _ (S3.trans (same_new ht)) (by rw [show uHi n = 2 * 2 ^ (n - 1).toNat - 1 by show (2 : Int) ^ n.toNat - 1 = _; rw [pow_step c1]]; exact upd_same)
            · skip
              fail "z run"
              exact no (fun q => c2 q.2) _ S3
          · fail "z run"
            refine iteT ?_
            fail "z run"
            exact no (fun q => c1 q.1) _ S3
        · have ko : kindOf "digits" n = if 1 ≤ n ∧ n ≤ 17 then some (uLo n, dHi n) else none := by
            unfold kindOf
            rw [if_neg (by decide +kernel), if_neg (by decide +kernel), if_pos rfl]
          have no : ¬(1 ≤ n ∧ n ≤ 17) → ∀ H', Same H H' → Q .non H' := fun q => k1 (kx.symm.trans (ko.trans (if_neg q)))
          have yes : 1 ≤ n → n ≤ 17 → ∀ t H', Same H H' → H' t = some (.tup [.int (uLo n), .int (dHi n)]) → Q (.ref t) H' := fun q1 q2 => k2 _ _ (kx.symm.trans (ko.trans (if_pos ⟨q1, q2⟩)))
          refine rd_ite (fun c1 => ?_) (fun c1 => ?_)
          · fail "z run"
            refine rd_ite (fun c => ?_) (fun c => absurd rfl c)
            fail "z run"
            refine rd_iteN (fun c2 => ?_) (fun c2 => ?_)
            rotate_left
            · skip
              fail "z run"
              refine rd_ite (fun c => ?_) (fun c => absurd rfl c)
              fail "z run"
              refine ⟨_, _, rfl, rfl, nine_ok c1 c2, ?_⟩
              fail "z run"
              refine ⟨_, _, rfl, (nine c1 c2).1, (nine c1 c2).2, ?_⟩
              fail "z run"
              intro t ht
              exact yes c1 c2 t _ (S3.trans (same_new ht)) upd_same
            · skip
              fail "z run"
              exact no (fun q => c2 q.2) _ S3
          · fail "z run"
            refine iteT ?_
            fail "z run"
            exact no (fun q => c1 q.1) _ S3
      · rw [decide_eq_false q]
        refine iteT ?_
        fail "z run"
        exact k1 (kx.symm.trans (bind_no q)) _ S3
/-! ### k04: drawn texts -/
abbrev s__law_text : Stmt := (top 25)
abbrev N__law_text : List Str := ["_law_pot", "_law_way", "_law_many", "_law_low", "_law_high"]
abbrev P__law_text : List Str := ["_law_pot"]
theorem sc__law_text : FnScope N__law_text P__law_text (defScope s__law_text) := ⟨rfl, rfl, rfl, by decide +kernel, rfl, by decide +kernel, by decide +kernel⟩
abbrev s__law_bent : Stmt := (top 26)
abbrev N__law_bent : List Str := ["_law_pot", "_law_text_here", "_law_at", "_law_sign", "_law_way"]
abbrev P__law_bent : List Str := ["_law_pot", "_law_text_here"]
theorem sc__law_bent : FnScope N__law_bent P__law_bent (defScope s__law_bent) := ⟨rfl, rfl, rfl, by decide +kernel, rfl, by decide +kernel, by decide +kernel⟩

def TxOk (k : Nat) (x : Str) : Prop := x.length ≤ k ∧ ∀ c ∈ cl x, c < 128
def txB (k : Nat) (x : Str) : Bool := decide (x.length ≤ k) && (cl x).all fun c => decide (c < 128)
theorem tx_of {k : Nat} {x : Str} (h : txB k x = true) : TxOk k x := by
  unfold txB at h
  rw [Bool.and_eq_true, decide_eq_true_eq, List.all_eq_true] at h
  exact ⟨h.1, fun c m => of_decide_eq_true (h.2 c m)⟩
theorem TxOk.app {a b : Nat} {x y : Str} (h : TxOk a x) (g : TxOk b y) : TxOk (a + b) (x ++ y) := by
  refine ⟨?_, fun c m => ?_⟩
  · rw [Str.length_append]
    have := h.1
    have := g.1
    omega
  · rw [cl_app, List.mem_append] at m
    rcases m with m | m
    · exact h.2 c m
    · exact g.2 c m
theorem TxOk.up {a b : Nat} {x : Str} (h : TxOk a x) (l : a ≤ b) : TxOk b x := ⟨Nat.le_trans h.1 l, h.2⟩
theorem sm_tx {k : Nat} {x : Str} (h : TxOk 300 x) : Sm k 300 (.str x) := by
  refine ⟨rfl, by simp [PyData.hasDict], ?_, ?_, ?_, by simp [PyData.depth]⟩
  · show PyData.canLay0 (.str x) = true
    unfold PyData.canLay0
    show (x.cps.all fun c => decide (c < 0x110000)) = true
    rw [← Array.all_toList, List.all_eq_true]
    exact fun c m => decide_eq_true (Nat.lt_of_lt_of_le (h.2 c m) (by decide))
  · show (x.cps.toList.all fun c => decide (c < 16 ^ 8)) = true
    rw [List.all_eq_true]
    exact fun c m => decide_eq_true (Nat.lt_of_lt_of_le (h.2 c m) (by decide))
  · show x.cps.size ≤ 300
    exact h.1
theorem cut_to {x : Str} {i : Int} (h : 0 ≤ i) : cl (cutS x none (some i)) = (cl x).take i.toNat := by
  show cl ⟨_⟩ = _
  rw [cl_mk]
  show List.take (HT.sIx x.length x.length (some i) - HT.sIx x.length 0 none) (List.drop (HT.sIx x.length 0 none) (cl x)) = _
  have e1 : HT.sIx x.length 0 none = 0 := rfl
  have e2 : HT.sIx x.length x.length (some i) = min i.toNat x.length := by
    show (if i < 0 then _ else _) = _
    rw [if_neg (by omega)]
  rw [e1, e2, List.drop_zero, Nat.sub_zero, cl_len]
  by_cases q : i.toNat ≤ (cl x).length
  · rw [Nat.min_eq_left q]
  · rw [Nat.min_eq_right (by omega), List.take_length, List.take_of_length_le (by omega)]
theorem cut_from {x : Str} {i : Int} (h : 0 ≤ i) : cl (cutS x (some i) none) = (cl x).drop i.toNat := by
  show cl ⟨_⟩ = _
  rw [cl_mk]
  show List.take (HT.sIx x.length x.length none - HT.sIx x.length 0 (some i)) (List.drop (HT.sIx x.length 0 (some i)) (cl x)) = _
  have e1 : HT.sIx x.length x.length none = x.length := rfl
  have e2 : HT.sIx x.length 0 (some i) = min i.toNat x.length := by
    show (if i < 0 then _ else _) = _
    rw [if_neg (by omega)]
  rw [e1, e2, cl_len]
  by_cases q : i.toNat ≤ (cl x).length
  · rw [Nat.min_eq_left q]
    exact List.take_of_length_le (by simp)
  · rw [Nat.min_eq_right (by omega), List.drop_length, List.drop_of_length_le (by omega)]
    exact List.take_nil
theorem tx_to {k : Nat} {x : Str} {i : Int} (h : TxOk k x) (h0 : 0 ≤ i) : TxOk (min i.toNat x.length) (cutS x none (some i)) := by
  refine ⟨?_, fun c m => ?_⟩
  · rw [cl_len, cut_to h0, List.length_take, cl_len]
    exact Nat.le_refl _
  · rw [cut_to h0] at m
    exact h.2 c (List.mem_of_mem_take m)
theorem tx_from {k : Nat} {x : Str} {i : Int} (h : TxOk k x) (h0 : 0 ≤ i) : TxOk (x.length - i.toNat) (cutS x (some i) none) := by
  refine ⟨?_, fun c m => ?_⟩
  · rw [cl_len, cut_from h0, List.length_drop, cl_len]
    exact Nat.le_refl _
  · rw [cut_from h0] at m
    exact h.2 c (List.mem_of_mem_drop m)
def spOfS : Sp := fun vs H Q _ => ∃ (p : Addr) (n : Nat) (y : Str), vs = [.ref p, .str y] ∧ Pot H p (n + 1) ∧ 0 < y.length ∧ y.length ≤ 1000 ∧ ∀ (c : Nat) (H' : Hp), c ∈ cl y → Kp p H H' → Pot H' p n → Q (.str ⟨#[c]⟩) H'
theorem ok_ofS {f : Addr} {fd : FuncData} (F : Fun K "_law_of" "_law_of" s__law_of f fd) (T : Txt mg) (c_take : Cal P w K mg base 1 "_law_take" P__law_take spTake) : FnOk P w K mg base CX0 2 f fd P__law_of spOfS := by
  obtain ⟨f_take, fd_take, G__law_take, b__law_take, g__law_take, k__law_take⟩ := c_take
  refine F.ok sc__law_of (fun vs H Q E h => ?_) (fun cdv A outer s H vs Q E hr h => ?_)
  · obtain ⟨p, n, y, rfl, _⟩ := h
    rfl
  · obtain ⟨p, n, y, rfl, hp, l0, l1, k⟩ := h
    have sz := sizeLine_eq
    refine ⟨_, (pss_one (ps_ret (pe_ix ix_str (pv 1) (pe_call G__law_take (hr.mono (by decide)) rfl g__law_take k__law_take b__law_take .nil pass0 (pa_cons (pv 0) (pa_cons (pe_callB call_len_str (by rfl) T.n_len (by decide +kernel) (pa_cons (pv 1) pa_nil)) pa_nil))) (fun _ _ => rfl)))), ?_⟩
    fail "z run"
    refine ⟨_, rfl, by omega, ?_⟩
    fail "z run"
    refine ⟨p, n, _, rfl, hp, by omega, by omega, fun r H' r0 r1 kp pt => ?_⟩
    fail "z run"
    obtain ⟨j, rfl⟩ : ∃ j : Nat, r = j := Int.eq_ofNat_of_zero_le r0
    have hlt : j < (cl y).length := by
      rw [cl_len] at r1
      omega
    refine ⟨_, (j : Int), (cl y)[j], rfl, rfl, by omega, (show atI (cl y) (j : Int) = some ((cl y)[j]) from atI_nat (List.getElem?_eq_getElem hlt)), ?_⟩
    exact k _ _ (List.getElem_mem hlt) kp pt
theorem tx_mem {k : Nat} {xs : List Str} (h : xs.all (txB k) = true) {v : V} (hv : v ∈ xs.map V.str) : ∃ y, v = .str y ∧ TxOk k y := by
  obtain ⟨y, m, e⟩ := List.mem_map.mp hv
  exact ⟨y, e.symm, tx_of (List.all_eq_true.mp h y m)⟩
theorem Pot.ne' {H : Hp} {p q : Addr} {n : Nat} (h : Pot H p n) (hq : H q = none) : q ≠ p := (h.ne hq).symm
def spText : Sp := fun vs H Q _ => ∃ (p : Addr) (n : Nat), vs = [.ref p] ∧ Pot H p (n + 4) ∧ ∀ (y : Str) (H' : Hp), TxOk 40 y → Kp p H H' → Pot H' p n → Q (.str y) H'
theorem ok_text {f : Addr} {fd : FuncData} (F : Fun K "_law_text" "_law_text" s__law_text f fd) (T : Txt mg) (c_take : Cal P w K mg base 1 "_law_take" P__law_take spTake) (c_of : Cal P w K mg base 2 "_law_of" P__law_of spOf) : FnOk P w K mg base CX0 3 f fd P__law_text spText := by
  obtain ⟨f_take, fd_take, G__law_take, b__law_take, g__law_take, k__law_take⟩ := c_take
  obtain ⟨f_of, fd_of, G__law_of, b__law_of, g__law_of, k__law_of⟩ := c_of
  refine F.ok sc__law_text (fun vs H Q E h => ?_) (fun cdv A outer s H vs Q E hr h => ?_)
  · obtain ⟨p, n, rfl, _⟩ := h
    rfl
  · obtain ⟨p, n, rfl, hp, k⟩ := h
    have sz := sizeLine_eq
    refine ⟨_, (pss_cons (ps_set (i := 1) sc__law_text.nd rfl (Or.inl rfl) (pe_call G__law_take (hr.mono (by decide)) rfl g__law_take k__law_take b__law_take .nil pass0 (pa_cons (pv 0) (pa_cons pe_int pa_nil))))
      (pss_cons (ps_if (pt_cmpR op_lt (pv 1) pe_int (nomark _)) (pss_cons (ps_set (i := 2) sc__law_text.nd rfl (Or.inl rfl) (pe_call G__law_of (hr.mono (by decide)) rfl g__law_of k__law_of b__law_of .nil pass0 (pa_cons (pv 0) (pa_cons (pe_lst (pa_cons pe_str (pa_cons pe_str (pa_cons pe_str (pa_cons pe_str (pa_cons pe_str (pa_cons pe_str (pa_cons pe_str (pa_cons pe_str (pa_cons pe_str (pa_cons pe_str (pa_cons pe_str (pa_cons pe_str (pa_cons pe_str pa_nil)))))))))))))) pa_nil))))
      (pss_one (ps_ret (pe_op op_add_str (pe_ix ix_list (pe_lst (pa_cons pe_str (pa_cons pe_str (pa_cons pe_str pa_nil)))) (pv 1) (fun _ _ => rfl)) (pv 2))))) pss_nil)
      (pss_cons (ps_set (i := 3) sc__law_text.nd rfl (Or.inl rfl) (pe_call G__law_of (hr.mono (by decide)) rfl g__law_of k__law_of b__law_of .nil pass0 (pa_cons (pv 0) (pa_cons (pe_lst (pa_cons pe_str (pa_cons pe_str (pa_cons pe_str (pa_cons pe_str (pa_cons pe_str (pa_cons pe_str (pa_cons pe_str (pa_cons pe_str (pa_cons (pe_op op_add_str pe_str (pe_op op_repS pe_str pe_int)) pa_nil)))))))))) pa_nil))))
      (pss_cons (ps_set (i := 4) sc__law_text.nd rfl (Or.inl rfl) (pe_call G__law_of (hr.mono (by decide)) rfl g__law_of k__law_of b__law_of .nil pass0 (pa_cons (pv 0) (pa_cons (pe_lst (pa_cons pe_str (pa_cons pe_str (pa_cons pe_str (pa_cons pe_str (pa_cons pe_str (pa_cons pe_str (pa_cons pe_str (pa_cons (pe_op op_repS pe_str pe_int) (pa_cons pe_str pa_nil)))))))))) pa_nil))))
      (pss_one (ps_ret (pe_op op_add_str (pe_op op_add_str (pv 3) (pe_call G__law_of (hr.mono (by decide)) rfl g__law_of k__law_of b__law_of .nil pass0 (pa_cons (pv 0) (pa_cons (pe_lst (pa_cons pe_str (pa_cons pe_str (pa_cons pe_str (pa_cons pe_str (pa_cons pe_str (pa_cons pe_str pa_nil))))))) pa_nil)))) (pv 4)))))))), ?_⟩
    fail "z run"
    refine ⟨p, n + 3, 6, rfl, hp, by decide, by decide, fun r H1 r0 r1 K1 P1 => ?_⟩
    fail "z run"
    refine rd_ite (fun c => ?_) (fun c => ?_)
    · fail "z run"
      intro w1 hw1
      fail "z run"
      refine ⟨p, w1, n + 2, _, rfl, P1.new hw1, P1.ne' hw1, upd_same, by simp, by simp, fun v H2 hv K2 P2 => ?_⟩
      obtain ⟨y, rfl, hy⟩ := tx_mem (k := 3) (xs := ["0", "1", "8", "16", "17", "18", "55", "56", "57", "08", "-8", "", "100"]) (by decide +kernel) hv
      have K2 := (K1.new hw1).trans K2
      fail "z run"
      intro w2 hw2
      fail "z run"
      refine rd_ixLr upd_same r0 (by show r < 3; omega) fun u hu => ?_
      obtain ⟨z, rfl, hz⟩ := tx_mem (k := 9) (xs := ["signed ", "unsigned ", "digits "]) (by decide +kernel) hu
      fail "z run"
      have l1 := hz.1
      have l2 := hy.1
      refine ⟨_, _, rfl, rfl, by omega, ?_⟩
      exact k _ _ ((hz.app hy).up (by decide)) (K2.new hw2) ((P2.new hw2).le (by omega))
    · fail "z run"
      refine ⟨_, _, rfl, rfl, nine_ok (n := 16) (by decide) (by decide), ?_⟩
      refine ⟨_, _, rfl, rfl, by rw [sz]; decide +kernel, ?_⟩
      fail "z run"
      intro w1 hw1
      fail "z run"
      refine ⟨p, w1, n + 2, _, rfl, P1.new hw1, P1.ne' hw1, upd_same, by simp, by simp, fun v H2 hv K2 P2 => ?_⟩
      obtain ⟨a, rfl, ha⟩ := tx_mem (k := 17) (xs := ["0", "-1", "-128", "-5", "1", "-0", "", "-07", "-" ++ Txt.mul "9" 16]) (by decide +kernel) hv
      have K2 := (K1.new hw1).trans K2
      fail "z run"
      refine ⟨_, _, rfl, rfl, nine_ok (n := 16) (by decide) (by decide), ?_⟩
      fail "z run"
      intro w2 hw2
      fail "z run"
      refine ⟨p, w2, n + 1, _, rfl, P2.new hw2, P2.ne' hw2, upd_same, by simp, by simp, fun v H3 hv K3 P3 => ?_⟩
      obtain ⟨b, rfl, hb⟩ := tx_mem (k := 16) (xs := ["0", "1", "255", "65535", "-1", "00", "", Txt.mul "9" 16, "7 "]) (by decide +kernel) hv
      have K3 := (K2.new hw2).trans K3
      fail "z run"
      intro w3 hw3
      fail "z run"
      refine ⟨p, w3, n, _, rfl, P3.new hw3, P3.ne' hw3, upd_same, by simp, by simp, fun v H4 hv K4 P4 => ?_⟩
      obtain ⟨d, rfl, hd⟩ := tx_mem (k := 4) (xs := ["..", "..", "..", ".", "...", " .. "]) (by decide +kernel) hv
      have K4 := (K3.new hw3).trans K4
      have l1 := ha.1
      have l2 := hb.1
      have l3 := hd.1
      have ad := ha.app hd
      fail "z run"
      refine ⟨_, _, rfl, rfl, by omega, ?_⟩
      fail "z run"
      refine ⟨_, _, rfl, rfl, by have := ad.1; omega, ?_⟩
      exact k _ _ ((ad.app hb).up (by decide)) K4 P4
def spBent : Sp := fun vs H Q _ => ∃ (p : Addr) (n k : Nat) (x : Str), vs = [.ref p, .str x] ∧ k ≤ 100 ∧ TxOk k x ∧ Pot H p (n + 3) ∧ ∀ (y : Str) (H' : Hp), TxOk (k + 1) y → Kp p H H' → Pot H' p n → Q (.str y) H'
theorem ok_bent {f : Addr} {fd : FuncData} (F : Fun K "_law_bent" "_law_bent" s__law_bent f fd) (T : Txt mg) (c_take : Cal P w K mg base 1 "_law_take" P__law_take spTake) (c_of : Cal P w K mg base 2 "_law_of" P__law_of spOfS) : FnOk P w K mg base CX0 3 f fd P__law_bent spBent := by
  obtain ⟨f_take, fd_take, G__law_take, b__law_take, g__law_take, k__law_take⟩ := c_take
  obtain ⟨f_of, fd_of, G__law_of, b__law_of, g__law_of, k__law_of⟩ := c_of
  refine F.ok sc__law_bent (fun vs H Q E h => ?_) (fun cdv A outer s H vs Q E hr h => ?_)
  · obtain ⟨p, n, m, x, rfl, _⟩ := h
    rfl
  · obtain ⟨p, n, m, x, rfl, hm, tx, hp, k⟩ := h
    have sz := sizeLine_eq
    have lx := tx.1
    refine ⟨_, (pss_cons (ps_par (i := 2) (j := 3) rfl sc__law_bent.nd rfl rfl (by decide) rfl rfl (pa_cons (pe_call G__law_take (hr.mono (by decide)) rfl g__law_take k__law_take b__law_take .nil pass0 (pa_cons (pv 0) (pa_cons (pe_op op_add (pe_callB call_len_str (by rfl) T.n_len (by decide +kernel) (pa_cons (pv 1) pa_nil)) pe_int) pa_nil))) (pa_cons (pe_call G__law_of (hr.mono (by decide)) rfl g__law_of k__law_of b__law_of .nil pass0 (pa_cons (pv 0) (pa_cons pe_str pa_nil))) pa_nil)) (by rfl))
      (pss_cons (ps_set (i := 4) sc__law_bent.nd rfl (Or.inl rfl) (pe_call G__law_take (hr.mono (by decide)) rfl g__law_take k__law_take b__law_take .nil pass0 (pa_cons (pv 0) (pa_cons pe_int pa_nil))))
      (pss_cons (ps_if (pt_cmpR op_eq (pv 4) pe_int (nomark _)) (pss_one (ps_ret (pe_op op_add_str (pe_op op_add_str (pe_slice sl_str (pv 1) po_none (po_some (pv 2))) (pv 3)) (pe_slice sl_str (pv 1) (po_some (pv 2)) po_none)))) pss_nil)
      (pss_one (ps_ret (pe_ifExp (pt_cmpR op_eq (pv 4) pe_int (nomark _)) (pe_op op_add_str (pe_slice sl_str (pv 1) po_none (po_some (pv 2))) (pe_slice sl_str (pv 1) (po_some (pe_op op_add (pv 2) pe_int)) po_none)) (pe_op op_add_str (pe_op op_add_str (pe_slice sl_str (pv 1) po_none (po_some (pv 2))) (pv 3)) (pe_slice sl_str (pv 1) (po_some (pe_op op_add (pv 2) pe_int)) po_none)))))))), ?_⟩
    unfold tSl tNoPart tPart
    fail "z run"
    refine ⟨_, rfl, by omega, ?_⟩
    fail "z run"
    refine ⟨p, n + 2, _, rfl, hp, by omega, by omega, fun r H1 r0 r1 K1 P1 => ?_⟩
    fail "z run"
    refine ⟨p, n + 1, _, rfl, P1, by decide +kernel, by decide +kernel, fun c H2 hc K2 P2 => ?_⟩
    have hc : c < 128 := by
      have z : ∀ c ∈ cl "0 1-.9su\n", c < 128 := by decide +kernel
      exact z c hc
    have tc : TxOk 1 ⟨#[c]⟩ := ⟨Nat.le_refl _, fun d hd => by
      rw [show cl ⟨#[c]⟩ = [c] from rfl, List.mem_singleton] at hd
      omega⟩
    have K2 := K1.trans K2
    fail "z run"
    refine ⟨p, n, 3, rfl, P2, by decide, by decide, fun r' H3 r2 r3 K3 P3 => ?_⟩
    have K3 := K2.trans K3
    have t1 := tx_to tx r0
    have t2 := tx_from tx r0
    have t3 := tx_from tx (show 0 ≤ r + 1 by omega)
    have l1 := t1.1
    have l2 := t2.1
    have l3 := t3.1
    have ll : (⟨#[c]⟩ : Str).length = 1 := rfl
    fail "z run"
    refine rd_ite (fun c1 => ?_) (fun c1 => ?_)
    · fail "z run"
      refine ⟨r, rfl, x, rfl, by omega, ?_⟩
      fail "z run"
      refine ⟨_, _, rfl, rfl, by omega, ?_⟩
      fail "z run"
      refine ⟨r, rfl, ?_⟩
      fail "z run"
      refine ⟨x, rfl, by omega, ?_⟩
      fail "z run"
      refine ⟨_, _, rfl, rfl, by rw [Str.length_append]; omega, ?_⟩
      exact k _ _ (((t1.app tc).app t2).up (by omega)) K3 P3
    · fail "z run"
      refine rd_ite (fun c2 => ?_) (fun c2 => ?_)
      · fail "z run"
        refine ⟨r, rfl, x, rfl, by omega, ?_⟩
        fail "z run"
        refine ⟨r + 1, rfl, ?_⟩
        fail "z run"
        refine ⟨x, rfl, by omega, ?_⟩
        fail "z run"
        refine ⟨_, _, rfl, rfl, by omega, ?_⟩
        exact k _ _ ((t1.app t3).up (by omega)) K3 P3
      · fail "z run"
        refine ⟨r, rfl, x, rfl, by omega, ?_⟩
        fail "z run"
        refine ⟨_, _, rfl, rfl, by omega, ?_⟩
        fail "z run"
        refine ⟨r + 1, rfl, ?_⟩
        fail "z run"
        refine ⟨x, rfl, by omega, ?_⟩
        fail "z run"
        refine ⟨_, _, rfl, rfl, by rw [Str.length_append]; omega, ?_⟩
        exact k _ _ (((t1.app tc).app t3).up (by omega)) K3 P3
/-! ### k04: what is heard of a text -/
abbrev s__law_heard : Stmt := (top 27)
abbrev N__law_heard : List Str := ["_law_value", "_law_caught", "_law_kind", "error"]
abbrev P__law_heard : List Str := ["_law_value"]
theorem sc__law_heard : FnScope N__law_heard P__law_heard (defScope s__law_heard) := ⟨rfl, rfl, rfl, by decide +kernel, rfl, by decide +kernel, by decide +kernel⟩

theorem pe_fldK {X : Cx} {K : PySem.W.Frag} {e : Expr} {f : Str} {ta : TE} {pos : Pos} (he : PE X e ta) (hb : attributeBase e f X.env (eval e X.env) = eval e X.env) (hk : X.K = K := by rfl) : PE X (.Attribute e f pos) (tFld K ta f) := by
  subst hk
  exact pe_fld he hb
def spHeard : Sp := fun vs H Q _ => ∃ v, vs = [v] ∧ Plain H v ∧ (∀ x, v = .str x → x.length ≤ 300) ∧
  (∀ x lo hi, v = .str x → rdKind x = some (lo, hi) → ∀ t1 t2 H', Same H H' → H' t1 = some (.tup [.int lo, .int hi]) → H' t2 = some (.tup [.str "kind", .ref t1]) → Q (.ref t2) H') ∧
  ((∀ x, v = .str x → rdKind x = none) → ∀ t H', Same H H' → H' t = some (.tup [.str "bad", v]) → Q (.ref t) H')
theorem ok_heard {f C CW C_BadText : Addr} {fd : FuncData} (F : Fun K "_law_heard" "_law_heard" s__law_heard f fd) (T : Txt mg) (n_ve : mg "ValueError" = none) (KT : KindT K C) (g_Kind : mg "Kind" = some (.ref C)) (cr_Kind : ClX.CRead K C (.type "type")) (g_WidthError : mg "WidthError" = some (.ref CW)) (ET_BadText : ErrT K mg CW C_BadText "BadText")
    (c_read : CalC P w K mg base (L2.CX P w) C 6 "read" P_Kind_read (spRead C C_BadText)) : FnOk P w K mg base CX0 7 f fd P__law_heard spHeard := by
  obtain ⟨q_r, f_r, fd_r, cm_read, G_Kind_read, b_Kind_read⟩ := c_read
  have g_BadText := ET_BadText.g
  refine F.ok sc__law_heard (fun vs H Q E h => ?_) (fun cdv A outer s H vs Q E hr h => ?_)
  · obtain ⟨v, rfl, _⟩ := h
    rfl
  · obtain ⟨v, rfl, p, len, k1, k2⟩ := h
    refine ⟨_, (pss_cons (ps_set (i := 1) sc__law_heard.nd rfl (Or.inl rfl) pe_non)
      (pss_keep (i := 3) rfl rfl sc__law_heard.nd rfl rfl ⟨rfl, by decide, .inl g_WidthError⟩ (fun W pn xe tk => (pss_cons (ps_set (i := 2) sc__law_heard.nd rfl (Or.inl rfl) (pe_cmethX (pe_glob (v := .ref C) rfl g_Kind rfl) cr_Kind cm_read G_Kind_read (hr.mono (by decide)) b_Kind_read (fun σ => passAt tk σ) (pa_cons (pv 0) pa_nil)))
      (pss_one (ps_ret (pe_tup (pa_cons pe_str (pa_cons (pe_tup (pa_cons (pe_fldK (K := K) (pv 2) (by rfl)) (pa_cons (pe_fldK (K := K) (pv 2) (by rfl)) pa_nil))) pa_nil))))))) (fun a oe cls d pn hz hf => (pss_one (ps_set (i := 1) sc__law_heard.nd rfl (Or.inl rfl) (pv 3))))
      pss_none
      (fun a oe cls d pn hz hf => (pss_cons (ps_if (PW.pt (pw_or (pt_not (pt_val (pe_callB (call_isK hz hf) (by rfl) T.n_isinstance (by decide +kernel) (pa_cons (pv 1) (pa_cons (pe_glob (v := .ref C_BadText) rfl g_BadText rfl) pa_nil))))) (pw_or1 (pt_not (pt_val (pe_callB (call_isK hz hf) (by rfl) T.n_isinstance (by decide +kernel) (pa_cons (pv 1) (pa_cons (pe_bltn (v := .ty "ValueError") (by rfl) n_ve (by decide +kernel) rfl) pa_nil)))))))) (pss_one (ps_ret (pe_tup (pa_cons pe_str (pa_cons pe_non pa_nil))))) pss_nil)
      (pss_one (ps_ret (pe_tup (pa_cons pe_str (pa_cons (pe_xfK hz hf (pv 1)) pa_nil))))))))), ?_⟩
    unfold tCMethX
    fail "z run"
    refine ⟨rfl, ?_⟩
    fail "z run"
    refine ⟨v, rfl, p, len, fun x lo hi ex er k H' S ik => ?_, fun no d H' nd S ed => ⟨ET_BadText.me, fun x nx => ?_⟩⟩
    · obtain ⟨dk, ek⟩ := id ik
      fail "z run"
      refine ⟨_, _, _, _, _, rfl, ek, KT.cl, KT.n_low, kf_low _ _, ?_⟩
      fail "z run"
      refine ⟨_, _, _, _, _, rfl, ek, KT.cl, KT.n_high, kf_high _ _, ?_⟩
      fail "z run"
      intro t1 ht1
      fail "z run"
      intro t2 ht2
      exact k1 x lo hi ex er t1 t2 _ (S.trans ((same_new ht1).trans (same_new ht2))) (same_new ht2 _ _ upd_same) upd_same
    · fail "z run"
      refine ⟨C_BadText, d, _, _, _, true, rfl, rfl, ET_BadText.ek, rfl, ed, fun _ h => h, ET_BadText.kc, ?_⟩
      fail "z run"
      refine iteF ?_
      fail "z run"
      refine ⟨C_BadText, d, _, _, _, true, rfl, rfl, ET_BadText.ek, rfl, ed, fun _ h => h, ET_BadText.kv, ?_⟩
      fail "z run"
      refine iteF ?_
      fail "z run"
      unfold tXfP
      fail "z run"
      refine ⟨rfl, C_BadText, d, _, v, rfl, ET_BadText.ek, ET_BadText.nv, rfl, ed, by simp [List.lookup], ?_⟩
      fail "z run"
      intro t ht
      exact k2 no t _ (S.trans (same_new ht)) upd_same
/-! ### k04: the law's turn -/
abbrev s__law_right : Stmt := (top 28)
abbrev N__law_right : List Str := ["_law_pot", "_law_text_here", "_law_value", "_law_ends_here", "_law_kind", "_law_odd"]
abbrev P__law_right : List Str := ["_law_pot"]
theorem sc__law_right : FnScope N__law_right P__law_right (defScope s__law_right) := ⟨rfl, rfl, rfl, by decide +kernel, rfl, by decide +kernel, by decide +kernel⟩

def spRight (n : Nat) : Sp := fun vs H Q _ => ∃ (p : Addr) (m : Nat), vs = [.ref p] ∧ Pot H p (m + n) ∧ ∀ H', Kp p H H' → Pot H' p m → Q (.bl true) H'
theorem obj_kp {p t : Addr} {H H' : Hp} {n : Nat} {o : HO} (h : H t = some o) (hp : Pot H p n) (k : Kp p H H') (ne : ∀ a b c : Int, o ≠ .lst [.int a, .int b, .int c]) : H' t = some o := by
  obtain ⟨x, z, c, ep, _⟩ := hp
  exact k _ _ (fun q => by rw [q, ep] at h; exact ne _ _ _ (Option.some.inj h).symm) h
def Odd4 (H : Hp) (v : V) : Prop := Plain H v ∧ (∀ x, v = .str x → x.length ≤ 300 ∧ rdKind x = none) ∧ ∃ d, (∀ H', Same H H' → Dz H' v d) ∧ Sz 1 400 d
theorem ok_right {f C CB CT : Addr} {fd : FuncData} (F : Fun K "_law_right" "_law_right" s__law_right f fd) (T : Txt mg) (n_str : mg "str" = none) (KT : KindT K C) (KO : KindO K C) (cr_Kind : ClX.CRead K C (.type "type")) (c_of : Cal P w K mg base 2 "_law_of" P__law_of spOf) (c_text : Cal P w K mg base 3 "_law_text" P__law_text spText) (c_bent : Cal P w K mg base 3 "_law_bent" P__law_bent spBent)
    (c_ends : Cal P w K mg base 2 "_law_ends" P__law_ends spEnds) (c_heard : Cal P w K mg base 7 "_law_heard" P__law_heard spHeard) (c_kind : CalK P w K mg base C CB) (c_read : CalC P w K mg base (L2.CX P w) C 6 "read" P_Kind_read (spRead C CT)) (c_eq : CalN P w K mg base C 1 "__eq__" P_Kind___eq__ (spCmp C eqB))
    (c_str : CalN P w K mg base C 1 "__str__" P_Kind___str__ (spStr C)) : FnG P w K mg base CX0 8 f fd P__law_right (spRight 14) := by
  obtain ⟨f_of, fd_of, G__law_of, b__law_of, g__law_of, k__law_of⟩ := c_of
  obtain ⟨f_text, fd_text, G__law_text, b__law_text, g__law_text, k__law_text⟩ := c_text
  obtain ⟨f_bent, fd_bent, G__law_bent, b__law_bent, g__law_bent, k__law_bent⟩ := c_bent
  obtain ⟨f_ends, fd_ends, G__law_ends, b__law_ends, g__law_ends, k__law_ends⟩ := c_ends
  obtain ⟨f_heard, fd_heard, G__law_heard, b__law_heard, g__law_heard, k__law_heard⟩ := c_heard
  obtain ⟨f_kind, fd_kind, mk_Kind, G_Kind, b_Kind, g_Kind⟩ := c_kind
  obtain ⟨q_r, f_r, fd_r, cm_read, G_Kind_read, b_Kind_read⟩ := c_read
  obtain ⟨f_eq, fd_eq, o___eq__, G_Kind___eq__, b_Kind___eq__⟩ := c_eq
  obtain ⟨f_str, fd_str, o___str__, G_Kind___str__, b_Kind___str__⟩ := c_str
  refine Fun_okG F sc__law_right (fun vs H Q E h => ?_) (fun cdv A outer s H vs Q E calm hr h => ?_)
  · obtain ⟨p, n, rfl, _⟩ := h
    rfl
  · obtain ⟨p, n, rfl, hp, k⟩ := h
    have sz := sizeLine_eq
    refine ⟨_, (pss_cons (ps_set (i := 1) sc__law_right.nd rfl (Or.inl rfl) (pe_call G__law_text (hr.mono (by decide)) rfl g__law_text k__law_text b__law_text .nil pass0 (pa_cons (pv 0) pa_nil)))
      (pss_cons (ps_for PassesOwn.never rfl (pi_tup (pe_tup (pa_cons (pv 1) (pa_cons (pe_call G__law_bent (hr.mono (by decide)) rfl g__law_bent k__law_bent b__law_bent .nil pass0 (pa_cons (pv 0) (pa_cons (pv 1) pa_nil))) (pa_cons (pe_call G__law_bent (hr.mono (by decide)) rfl g__law_bent k__law_bent b__law_bent .nil pass0 (pa_cons (pv 0) (pa_cons (pe_call G__law_bent (hr.mono (by decide)) rfl g__law_bent k__law_bent b__law_bent .nil pass0 (pa_cons (pv 0) (pa_cons (pv 1) pa_nil))) pa_nil))) pa_nil))))) (pg_name (i := 2) sc__law_right.nd rfl (Or.inl rfl)) (pss_cons (ps_set (i := 3) sc__law_right.nd rfl (Or.inl rfl) (pe_call G__law_ends (hr.mono (by decide)) rfl g__law_ends k__law_ends b__law_ends .nil pass0 (pa_cons (pv 2) pa_nil)))
      (pss_cons (ps_if (pt_cmpR op_ne (pe_callB (call_reprZ calm (hu70 hr)) (by rfl) T.n_repr (by decide +kernel) (pa_cons (pe_call G__law_heard (hr.mono (by decide)) rfl g__law_heard k__law_heard b__law_heard .nil pass0 (pa_cons (pv 2) pa_nil)) pa_nil)) (pe_callB (call_reprZ calm (hu70 hr)) (by rfl) T.n_repr (by decide +kernel) (pa_cons (pe_ifExp (pt_cmpR op_isN (pv 3) pe_non (nomark _)) (pe_tup (pa_cons pe_str (pa_cons (pv 2) pa_nil))) (pe_tup (pa_cons pe_str (pa_cons (pv 3) pa_nil)))) pa_nil)) (nomark _)) (pss_one (ps_ret pe_bl)) pss_nil)
      (pss_one (ps_if (pt_cmpR op_notN (pv 3) pe_non (nomark _)) (pss_cons (ps_set (i := 4) sc__law_right.nd rfl (Or.inl rfl) (pe_cmethF (pe_glob (v := .ref C) rfl g_Kind rfl) cr_Kind cm_read G_Kind_read (hr.mono (by decide)) b_Kind_read passL (pa_cons (pv 2) pa_nil)))
      (pss_one (ps_if (PW.pt (pw_or (pt_cmpR op_ne (pe_callTy (call_strI o___str__.at_ o___str__.fn G_Kind___str__ (hr.mono (by decide)) b_Kind___str__ pass0 (hu70 hr)) (by rfl) n_str (by decide +kernel) (pa_cons (pv 4) pa_nil)) (pe_op op_add_str (pe_op op_add_str (pe_callTy call_str_int (by rfl) n_str (by decide +kernel) (pa_cons (pe_ix ix_tup (pv 3) pe_int (fun _ _ => rfl)) pa_nil)) pe_str) (pe_callTy call_str_int (by rfl) n_str (by decide +kernel) (pa_cons (pe_ix ix_tup (pv 3) pe_int (fun _ _ => rfl)) pa_nil))) (nomark _)) (pw_or1 (pt_cmpR (op_neI KO.ic.hm KO.ne o___eq__.at_ o___eq__.fn G_Kind___eq__ (hr.mono (by decide)) b_Kind___eq__ pass0 (lt_units hr.units)) (pe_cmethF (pe_glob (v := .ref C) rfl g_Kind rfl) cr_Kind cm_read G_Kind_read (hr.mono (by decide)) b_Kind_read passL (pa_cons (pe_callTy (call_strI o___str__.at_ o___str__.fn G_Kind___str__ (hr.mono (by decide)) b_Kind___str__ pass0 (hu70 hr)) (by rfl) n_str (by decide +kernel) (pa_cons (pv 4) pa_nil)) pa_nil)) (pe_make mk_Kind G_Kind (hr.mono (by decide)) rfl g_Kind b_Kind .nil passN (pa_cons (pe_ix ix_tup (pv 3) pe_int (fun _ _ => rfl)) (pa_cons (pe_ix ix_tup (pv 3) pe_int (fun _ _ => rfl)) pa_nil))) (nomark _))))) (pss_one (ps_ret pe_bl)) pss_nil))) pss_nil)))))
      (pss_cons (ps_set (i := 5) sc__law_right.nd rfl (Or.inl rfl) (pe_call G__law_of (hr.mono (by decide)) rfl g__law_of k__law_of b__law_of .nil pass0 (pa_cons (pv 0) (pa_cons (pe_lst (pa_cons pe_non (pa_cons pe_bl (pa_cons pe_int (pa_cons pe_int (pa_cons (pe_tup pa_nil) (pa_cons (pe_tup (pa_cons pe_str pa_nil)) (pa_cons (pe_lstN pa_nil) (pa_cons pe_dnewK (pa_cons pe_str (pa_cons pe_str (pa_cons pe_str (pa_cons pe_str (pa_cons pe_str pa_nil)))))))))))))) pa_nil))))
      (pss_one (ps_ret (pe_cmpR op_eq (pe_callB (call_reprZ calm (hu70 hr)) (by rfl) T.n_repr (by decide +kernel) (pa_cons (pe_call G__law_heard (hr.mono (by decide)) rfl g__law_heard k__law_heard b__law_heard .nil pass0 (pa_cons (pv 5) pa_nil)) pa_nil)) (pe_callB (call_reprZ calm (hu70 hr)) (by rfl) T.n_repr (by decide +kernel) (pa_cons (pe_tup (pa_cons pe_str (pa_cons (pv 5) pa_nil))) pa_nil)) (nomark _))))))), ?_⟩
    unfold tLstN
    fail "z run"
    refine ⟨p, n + 10, rfl, hp, fun x H1 tx K1 P1 => ?_⟩
    fail "z run"
    with_reducible refine rd_for ?_
    with_reducible refine rd_iT ?_
    fail "z run"
    refine ⟨p, n + 7, 40, x, rfl, by decide, tx, P1, fun y H2 ty K2 P2 => ?_⟩
    fail "z run"
    refine ⟨p, n + 4, 40, x, rfl, by decide, tx, P2, fun z0 H3 tz0 K3 P3 => ?_⟩
    fail "z run"
    refine ⟨p, n + 1, 41, z0, rfl, by decide, tz0, P3, fun z H4 tz K4 P4 => ?_⟩
    fail "z run"
    intro u hu
    have KH : Kp p H H4 := ((K1.trans K2).trans K3).trans K4
    refine rd_iTa upd_same (for_tup (K := K) (a := u) (xs := [.str x, .str y, .str z]) (fun i σ H' => ∃ a b c, σ = [some (.ref p), some (.str x), a, b, c, none] ∧ Same (upd H4 u (.tup [.str x, .str y, .str z])) H')
      ⟨none, none, none, rfl, Same.refl _⟩ (fun i σ H' _ ⟨_, _, _, _, s⟩ => SqT.of (s _ _ upd_same)) ?_ ?_)
    · rintro i v σ H' hx ⟨v2, v3, v4, rfl, s⟩
      obtain ⟨q, rfl, tq⟩ : ∃ q : Str, v = .str q ∧ TxOk 50 q := by
        rcases i with _ | _ | _ | i
        · cases hx
          exact ⟨_, rfl, tx.up (by decide)⟩
        · cases hx
          exact ⟨_, rfl, ty.up (by decide)⟩
        · cases hx
          exact ⟨_, rfl, tz.up (by decide)⟩
        · simp at hx
      have lq := tq.1
      have sq : Sz 1 300 (.str q) := (sm_tx (k := 0) (tq.up (by decide))).z.up (by decide) (by decide)
      have tb : Sz 1 300 (.str "bad") := (sm_tx (k := 0) (tx_of (by decide +kernel))).z.up (by decide) (by decide)
      have tk : Sz 1 300 (.str "kind") := (sm_tx (k := 0) (tx_of (by decide +kernel))).z.up (by decide) (by decide)
      fail "z run"
      refine ⟨q, rfl, by omega, fun no H6 S6 => ?_, fun lo hi e t0 H6 S6 h0 => ?_⟩
      · fail "z run"
        refine ⟨_, rfl, .str _, fun x e => by cases e; omega, fun x lo hi e er => ?_, fun _ t7 H7 S7 h7 => ?_⟩
        · cases e
          rw [no] at er
          cases er
        fail "z run"
        refine rd_reprZ (.tup h7 (.cons (.str _) (.cons (.str q) .nil))) (sz_tup (sz_cons tb (sz_cons sq sz_nil))) (by decide) (by decide) ?_
        fail "z run"
        refine rd_ite (fun _ => ?_) (fun c => absurd rfl c)
        fail "z run"
        intro t8 ht8
        fail "z run"
        refine rd_reprZ (.tup upd_same (.cons (.str _) (.cons (.str q) .nil))) (sz_tup (sz_cons tb (sz_cons sq sz_nil))) (by decide) (by decide) ?_
        fail "z run"
        refine rd_iteN (fun ne => absurd rfl ne) (fun _ => ?_)
        fail "z run"
        refine rd_iteN (fun ne => absurd rfl ne) (fun _ => ?_)
        fail "z run"
        exact ⟨_, _, _, rfl, ((s.trans S6).trans S7).trans (same_new ht8)⟩
      · obtain ⟨lo0, hi0, blo, bhi⟩ := rd_props e
        have zlo := (sm_int (k := 0) (i := lo) (by omega) (by omega)).z
        have zhi := (sm_int (k := 0) (i := hi) (by omega) (by omega)).z
        have zp : Sz 1 500 (.tuple [.int lo, .int hi]) := (sz_tup (sz_cons zlo (sz_cons zhi sz_nil))).up (by decide) (by decide)
        fail "z run"
        refine ⟨_, rfl, .str _, fun x e => by cases e; omega, fun x lo2 hi2 ex er t1 t2 H7 S7 h1 h2 => ?_, fun no => absurd e (by rw [no q rfl]; exact fun z => nomatch z)⟩
        cases ex
        rw [e] at er
        cases er
        fail "z run"
        refine rd_reprZ (.tup h2 (.cons (.str _) (.cons (.tup h1 (.cons (.int lo) (.cons (.int hi) .nil))) .nil))) (sz_tup (sz_cons tk (sz_cons zp sz_nil))) (by decide) (by decide) ?_
        fail "z run"
        refine rd_ite (fun c => nomatch c) (fun _ => ?_)
        fail "z run"
        have h0 := S7 _ _ h0
        intro t8 ht8
        have S8 := same_new (o := .tup [.str "kind", .ref t0]) ht8
        have h8 : upd H7 t8 (.tup [.str "kind", .ref t0]) t8 = some (.tup [.str "kind", .ref t0]) := upd_same
        have h0 := S8 _ _ h0
        generalize upd H7 t8 (.tup [.str "kind", .ref t0]) = H8 at *
        fail "z run"
        refine rd_reprZ (.tup h8 (.cons (.str _) (.cons (.tup h0 (.cons (.int lo) (.cons (.int hi) .nil))) .nil))) (sz_tup (sz_cons tk (sz_cons zp sz_nil))) (by decide) (by decide) ?_
        fail "z run"
        refine rd_iteN (fun ne => absurd rfl ne) (fun _ => ?_)
        fail "z run"
        refine rd_iteN (fun _ => ?_) (fun c => nomatch c)
        fail "z run"
        refine ⟨rfl, ?_⟩
        fail "z run"
        refine ⟨_, rfl, .str _, fun x e => by cases e; omega, fun x lo2 hi2 ex er kd H9 S9 k9 => ?_, fun no => absurd e (by rw [no q rfl]; exact fun z => nomatch z)⟩
        cases ex
        rw [e] at er
        cases er
        have h0 := S9 _ _ h0
        obtain ⟨dk, e9⟩ := id k9
        fail "z run"
        refine ⟨kd, dk, _, rfl, e9, kd, lo, hi, rfl, k9, by omega, by omega, by omega, by omega, fun s1 hs1 => ⟨s1, rfl, ?_⟩⟩
        fail "z run"
        have log : ∀ n : Int, n.natAbs < 10 ^ 18 → n.natAbs.log2 < 1920 := fun n h => by
          have := log_of (i := n) (by omega) (by omega)
          omega
        have tl1 := tx_len blo
        have tl2 := tx_len bhi
        refine ⟨log lo blo, ?_⟩
        fail "z run"
        refine ⟨Zg.tx lo, _, rfl, rfl, by rw [show ((".." : Str)).length = 2 by decide +kernel]; omega, ?_⟩
        fail "z run"
        refine ⟨log hi bhi, ?_⟩
        fail "z run"
        refine ⟨_, Zg.tx hi, rfl, rfl, by rw [Str.length_append, show ((".." : Str)).length = 2 by decide +kernel]; omega, ?_⟩
        fail "z run"
        have es : s1 = Zg.tx lo ++ ".." ++ Zg.tx hi := cl_inj (by rw [hs1, cl_app, cl_app, cl_dots]; simp)
        have l1 : s1.length ≤ 300 := by
          rw [es, Str.length_append, Str.length_append, show ((".." : Str)).length = 2 by decide +kernel]
          omega
        refine rd_iteN (fun ne => absurd (congrArg V.str es) ne) (fun _ => ?_)
        fail "z run"
        refine ⟨rfl, ?_⟩
        fail "z run"
        refine ⟨kd, dk, _, rfl, e9, kd, lo, hi, rfl, k9, by omega, by omega, by omega, by omega, fun s2 hs2 => ⟨s2, rfl, ?_⟩⟩
        have e12 : s2 = s1 := cl_inj (hs2.trans hs1.symm)
        subst e12
        have e2 := rd_tx lo0 hi0 blo bhi hs1
        fail "z run"
        refine ⟨_, rfl, .str _, fun x e => by cases e; omega, fun x lo2 hi2 ex er kd2 H10 S10 k10 => ?_, fun no => absurd e2 (by rw [no _ rfl]; exact fun z => nomatch z)⟩
        cases ex
        rw [e2] at er
        cases er
        have h0 := S10 _ _ h0
        fail "z run"
        refine rd_Kind (lo := lo) (hi := hi) lo0 hi0 fun kd3 H11 n11 S11 k11 => ?_
        fail "z run"
        refine rd_ownNe (k10.same S11) k11 ⟨kd2, kd3, lo, hi, lo, hi, rfl, k10.same S11, k11, true, by unfold eqB; rw [decide_eq_true rfl, decide_eq_true rfl]; rfl, ?_⟩
        fail "z run"
        refine iteF ?_
        fail "z run"
        exact ⟨_, _, _, rfl, ((((s.trans S6).trans S7).trans S8).trans S9).trans (S10.trans S11)⟩
    · rintro σ H' ⟨v2, v3, v4, rfl, s⟩
      have S5 := (same_new (o := .tup [.str x, .str y, .str z]) hu).trans s
      have P5 := P4.same S5
      have K5 : Kp p H H' := KH.trans fun b o _ e => S5 b o e
      fail "z run"
      intro w1 hw1
      fail "z run"
      intro w2 hw2
      fail "z run"
      refine ⟨Nat.zero_le _, fun w3 nw3 hw3 => ?_⟩
      fail "z run"
      intro w4 hw4
      fail "z run"
      intro w6 hw6
      have r6 := same_new (o := .lst [.non, .bl true, .int 0, .int 255, .ref w1, .ref w2, .ref w3, .ref w4, .str "signed", .str "..", .str " ", .str "unsigned  8", .str "Signed 8"]) hw6
      have r4 := (same_new (o := .dK []) hw4).trans r6
      have r3 := (same_new (o := .lst []) hw3).trans r4
      have r2 := (same_new (o := .tup [.str "0..1"]) hw2).trans r3
      have r1 := (same_new (o := .tup []) hw1).trans r2
      have b1 := r2 _ _ (upd_same (H := H') (a := w1) (o := .tup []))
      have b2 := r3 _ _ (upd_same (H := upd H' w1 (.tup [])) (a := w2) (o := .tup [.str "0..1"]))
      have b3 := r4 _ _ (upd_same (H := upd (upd H' w1 (.tup [])) w2 (.tup [.str "0..1"])) (a := w3) (o := .lst []))
      have b4 := r6 _ _ (upd_same (H := upd (upd (upd H' w1 (.tup [])) w2 (.tup [.str "0..1"])) w3 (.lst [])) (a := w4) (o := .dK []))
      have P6 := P5.same r1
      have nw : w6 ≠ p := (P5.same ((same_new (o := .tup []) hw1).trans ((same_new (o := .tup [.str "0..1"]) hw2).trans ((same_new (o := .lst []) hw3).trans (same_new (o := .dK []) hw4))))).ne' hw6
      fail "z run"
      refine ⟨p, w6, n, _, rfl, P6, nw, upd_same, by simp, by simp, fun v H8 hv K8 P8 => ?_⟩
      have KP : Kp p H H8 := K5.trans fun b o nb e => K8 _ _ nb (r1 _ _ e)
      have s1 := obj_kp b1 P6 K8 (fun _ _ _ z => nomatch z)
      have s2 := obj_kp b2 P6 K8 (fun _ _ _ z => nomatch z)
      have s3 := obj_kp b3 P6 K8 (fun _ _ _ z => nomatch z)
      have s4 := obj_kp b4 P6 K8 (fun _ _ _ z => nomatch z)
      have ofs : ∀ x : Str, txB 300 x = true → rdKind x = none → Odd4 H8 (.str x) := fun x h1 h2 => ⟨.str x, fun y e => by cases e; exact ⟨(tx_of h1).1, h2⟩, _, fun _ _ => .str x, (sm_tx (k := 0) (tx_of h1)).z.up (by decide) (by decide)⟩
      have odd : Odd4 H8 v := by
        simp only [List.mem_cons, List.not_mem_nil, or_false] at hv
        rcases hv with rfl | rfl | rfl | rfl | rfl | rfl | rfl | rfl | rfl | rfl | rfl | rfl | rfl
        · exact ⟨.non, (fun x e => nomatch e), _, (fun _ _ => .non), (sm_none (k := 0)).z.up (by decide) (by decide)⟩
        · exact ⟨.bl _, (fun x e => nomatch e), _, (fun _ _ => .bl _), (sm_bool (k := 0) true).z.up (by decide) (by decide)⟩
        · exact ⟨.int _, (fun x e => nomatch e), _, (fun _ _ => .int _), (sm_int (k := 0) (by decide) (by decide)).z.up (by decide) (by decide)⟩
        · exact ⟨.int _, (fun x e => nomatch e), _, (fun _ _ => .int _), (sm_int (k := 0) (by decide) (by decide)).z.up (by decide) (by decide)⟩
        · exact ⟨.tup s1, (fun x e => nomatch e), _, (fun _ S => .tup (S _ _ s1) .nil), (sz_tup (k := 0) sz_nil).up (by decide) (by decide)⟩
        · exact ⟨.tup s2, (fun x e => nomatch e), _, (fun _ S => .tup (S _ _ s2) (.cons (.str _) .nil)), (sz_tup (k := 0) (sz_cons (sm_tx (k := 0) (tx_of (k := 300) (by decide +kernel))).z sz_nil)).up (by decide) (by decide)⟩
        · exact ⟨.lst s3, (fun x e => nomatch e), _, (fun _ S => .lst nw3 (S _ _ s3) .nil), (sz_list (k := 0) sz_nil).up (by decide) (by decide)⟩
        · exact ⟨.dK s4, (fun x e => nomatch e), _, (fun _ S => .d0 (S _ _ s4)), (sz_d0 (k := 0)).up (by decide) (by decide)⟩
        · exact ofs _ (by decide +kernel) (by decide +kernel)
        · exact ofs _ (by decide +kernel) (by decide +kernel)
        · exact ofs _ (by decide +kernel) (by decide +kernel)
        · exact ofs _ (by decide +kernel) (by decide +kernel)
        · exact ofs _ (by decide +kernel) (by decide +kernel)
      obtain ⟨pl, st, d, hd, sd⟩ := odd
      have tb : Sz 1 300 (.str "bad") := (sm_tx (k := 0) (tx_of (by decide +kernel))).z.up (by decide) (by decide)
      fail "z run"
      refine ⟨v, rfl, pl, fun x e => (st x e).1, fun x lo hi e er => ?_, fun _ t7 H7 S7 h7 => ?_⟩
      · rw [(st x e).2] at er
        cases er
      fail "z run"
      refine rd_reprZ (.tup h7 (.cons (.str _) (.cons (hd _ S7) .nil))) (sz_tup (sz_cons tb (sz_cons sd sz_nil))) (by decide) (by decide) ?_
      fail "z run"
      intro t8 ht8
      fail "z run"
      refine rd_reprZ (.tup upd_same (.cons (.str _) (.cons (hd _ (S7.trans (same_new ht8))) .nil))) (sz_tup (sz_cons tb (sz_cons sd sz_nil))) (by decide) (by decide) ?_
      fail "z run"
      rw [decide_eq_true rfl]
      exact k _ (KP.trans fun b o _ e => same_new ht8 _ _ (S7 _ _ e)) ((P8.same S7).same (same_new ht8))
abbrev s_law : Stmt := (top 29)
abbrev N_law : List Str := ["_law_script", "_law_k", "_law_pot", "_law_turn"]
abbrev P_law : List Str := ["_law_script"]
theorem sc_law : FnScope N_law P_law (defScope s_law) := ⟨rfl, rfl, rfl, by decide +kernel, rfl, by decide +kernel, by decide +kernel⟩

def spLaw (K : PySem.W.Frag) : Sp := fun vs H Q _ => ∃ (a : Addr) (ns : List Int), vs = [.ref a] ∧ SqL K H a (ns.map V.int) ∧ ns.length ≤ 63 ∧ ∀ H', Q (.bl true) H'
theorem sql_kp {K : PySem.W.Frag} {H H1 H2 : Hp} {a p : Addr} {xs : List V} (h : SqL K H a xs) (hp : H p = none) (s : Same H H1) (k : Kp p H1 H2) : SqL K H2 a xs := by
  rcases h with (h | ⟨o, h⟩) | h
  · exact .inl (.inl (k _ _ (ne_of_none h hp) (s _ _ h)))
  · exact .inl (.inr ⟨o, k _ _ (ne_of_none h hp) (s _ _ h)⟩)
  · exact .inr h
theorem ok_law {f : Addr} {fd : FuncData} (F : Fun K "law" "law" s_law f fd) (T : Txt mg) (c_pot : Cal P w K mg base 1 "_law_pot_of" P__law_pot_of (spPotOf K))
    (c_right : CalG P w K mg base 8 "_law_right" P__law_right (spRight 14)) : FnG P w K mg base CX0 9 f fd P_law (spLaw K) := by
  obtain ⟨f_pot, fd_pot, G__law_pot_of, b__law_pot_of, g__law_pot_of, k__law_pot_of⟩ := c_pot
  obtain ⟨f_right, fd_right, G__law_right, b__law_right, g__law_right, k__law_right⟩ := c_right
  refine Fun_okG F sc_law (fun vs H Q E h => ?_) (fun cdv A outer s H vs Q E calm hr h => ?_)
  · obtain ⟨a, ns, rfl, _⟩ := h
    rfl
  · obtain ⟨a, ns, rfl, hS, few, k⟩ := h
    refine ⟨_, (pss_cons (ps_for PassesOwn.never rfl (pi_range1 rfl T.n_range (pa_cons (pe_callB (call_max2 rfl) (by rfl) T.n_max (by decide +kernel) (pa_cons pe_int (pa_cons (pe_callB (call_min2 rfl) (by rfl) T.n_min (by decide +kernel) (pa_cons pe_int (pa_cons (pe_callB call_len_seq (by rfl) T.n_len (by decide +kernel) (pa_cons (pv 0) pa_nil)) pa_nil))) pa_nil))) pa_nil)) (pg_name (i := 1) sc_law.nd rfl (Or.inl rfl)) (pss_cons (ps_set (i := 2) sc_law.nd rfl (Or.inr rfl) (pe_call G__law_pot_of (hr.mono (by decide)) rfl g__law_pot_of k__law_pot_of b__law_pot_of .nil pass0 (pa_cons (pv 0) (pa_cons (pv 1) pa_nil))))
      (pss_one (ps_if (pt_not (pt_val (pe_callB (cr_all rfl) (by rfl) T.n_all (by decide +kernel) (pa_cons (pe_lc (own := [("_law_turn", 3)]) (g := gName 3) (tt := tYes) rfl sc_law.nd (pi_range1 rfl T.n_range (pa_cons pe_int pa_nil)) (blkOk_by (N := N_law) (sc := defScope s_law) (by decide +kernel)) (fun _ _ _ _ _ => (pg_name (i := 3) sc_law.nd rfl (Or.inl rfl))) (fun _ _ _ _ _ => pts_nil) (fun _ _ _ _ _ => (pe_callG calm G__law_right (hr.mono (by decide)) rfl g__law_right k__law_right b__law_right pass0 (pa_cons (pv 2) pa_nil)))) pa_nil)))) (pss_one (ps_ret pe_bl)) pss_nil))))
      (pss_one (ps_ret pe_bl))), ?_⟩
    fail "z run"
    with_reducible refine rd_for ?_
    with_reducible refine rd_rng1 ?_
    fail "z run"
    refine rd_lenLs hS ?_
    fail "z run"
    refine ⟨by split <;> (try split) <;> omega, by split <;> (try split) <;> omega, for_range (lo := 0) (fun i σ H' => ∃ v1 v2 v3, σ = [some (.ref a), v1, v2, v3] ∧ SqL K H' a (ns.map V.int)) ⟨none, none, none, rfl, hS⟩ ?_ ?_⟩
    · rintro i σ H' hi ⟨v1, v2, v3, rfl, hS'⟩
      have i2 : i ≤ 2 := by
        split at hi <;> (try split at hi) <;> omega
      fail "z run"
      refine ⟨a, ns, _, rfl, hS', by omega, by omega, by omega, fun p H1 np S1 P1 => ?_⟩
      fail "z run"
      unfold tLc
      with_reducible refine rd_rng1 ?_
      fail "z run"
      refine ⟨by decide, by decide, fun D hD => lc_range (lo := 0) (n := 14) (fun j H2 => Kp p H1 H2 ∧ Pot H2 p (14 * (14 - j)) ∧ H2 D = some (.lst (List.replicate j (V.bl true)))) ?_ ?_ ?_⟩
      · exact ⟨Kp.refl.new hD, (P1.new hD).le (by decide), upd_same⟩
      · rintro j H2 hj ⟨K2, P2, hL⟩
        have nDp : D ≠ p := fun e => by
          obtain ⟨x, y, z, ep, _⟩ := P1
          rw [e, ep] at hD
          cases hD
        have e20 : 14 * (14 - j) = (14 * (14 - (j + 1))) + 14 := by omega
        rw [e20] at P2
        fail "z run"
        refine ⟨rfl, ?_⟩
        unfold tYes
        refine iteT ?_
        fail "z run"
        refine ⟨p, _, rfl, P2, fun H4 K4 P4 => ?_⟩
        have hL4 := K4 _ _ nDp hL
        refine ⟨_, hL4, Nat.lt_of_le_of_lt (by rw [List.length_replicate]; exact Nat.le_of_lt hj) (small1000 (by decide)), fun b o nb e => ?_, ?_, ?_⟩
        · rw [upd_ne (ne_of_none e hD)]
          exact K4 _ _ nb (K2 _ _ nb e)
        · obtain ⟨x, y, z, ep, r⟩ := P4.le (m := 14 * (14 - (j + 1))) (by omega)
          exact ⟨x, y, z, (upd_ne nDp.symm).trans ep, r⟩
        · rw [rep_snoc]
          exact upd_same
      · rintro H2 ⟨K2, P2, hL⟩
        fail "z run"
        refine ⟨D, List.replicate 14 true, rfl, SqL.of (by rw [List.map_replicate]; exact hL), ?_⟩
        rw [all_rep]
        fail "z run"
        refine iteF ?_
        fail "z run"
        exact ⟨_, _, _, rfl, sql_kp hS' np S1 K2⟩
    · rintro σ H' ⟨v1, v2, v3, rfl, hS'⟩
      fail "z run"
      exact k H'
end
theorem all_mk {l : PySem.W.OpenLaw} {w : World} {K : PySem.W.Frag} {h : Heap} {mg : Str → Option Value} {fa : Addr}
    {C : Addr}
    {tb td tf : Tok}
    {CW : Addr}
    {C_BadBits : Addr} {nmBadBits qBadBits : Str} {NBadBits : Addr} {bsBadBits : List Value} {snBadBits : List Str} {subBadBits : List Value} {abBadBits : Bool} {colBadBits : Option Bool} {ddBadBits : Option Addr} {m0BadBits m1BadBits m2BadBits m3BadBits m5BadBits : Option Value}
    {C_BadKind : Addr} {nmBadKind qBadKind : Str} {NBadKind : Addr} {bsBadKind : List Value} {snBadKind : List Str} {subBadKind : List Value} {abBadKind : Bool} {colBadKind : Option Bool} {ddBadKind : Option Addr} {m0BadKind m1BadKind m2BadKind m3BadKind m5BadKind : Option Value}
    {C_BadText : Addr} {nmBadText qBadText : Str} {NBadText : Addr} {bsBadText : List Value} {snBadText : List Str} {subBadText : List Value} {abBadText : Bool} {colBadText : Option Bool} {ddBadText : Option Addr} {m0BadText m1BadText m2BadText m3BadText m5BadText : Option Value}
    {fBadBits___init__ : Addr} {odBadBits___init__ anBadBits___init__ : Option Addr} {slBadBits___init__ : Array (Option Value)} {ocBadBits___init__ kVBadBits___init__ dcBadBits___init__ pmBadBits___init__ cdBadBits___init__ ctBadBits___init__ : Value}
    {fBadKind___init__ : Addr} {odBadKind___init__ anBadKind___init__ : Option Addr} {slBadKind___init__ : Array (Option Value)} {ocBadKind___init__ kVBadKind___init__ dcBadKind___init__ pmBadKind___init__ cdBadKind___init__ ctBadKind___init__ : Value}
    {fBadText___init__ : Addr} {odBadText___init__ anBadText___init__ : Option Addr} {slBadText___init__ : Array (Option Value)} {ocBadText___init__ kVBadText___init__ dcBadText___init__ pmBadText___init__ cdBadText___init__ ctBadText___init__ : Value}
    {fis_integer : Addr} {odis_integer anis_integer : Option Addr} {slis_integer : Array (Option Value)} {ocis_integer kVis_integer dcis_integer pmis_integer cdis_integer ctis_integer : Value}
    {fis_between : Addr} {odis_between anis_between : Option Addr} {slis_between : Array (Option Value)} {ocis_between kVis_between dcis_between pmis_between cdis_between ctis_between : Value}
    {fread_integer : Addr} {odread_integer anread_integer : Option Addr} {slread_integer : Array (Option Value)} {ocread_integer kVread_integer dcread_integer pmread_integer cdread_integer ctread_integer : Value}
    {fKind___init__ : Addr} {odKind___init__ anKind___init__ : Option Addr} {slKind___init__ : Array (Option Value)} {ocKind___init__ kVKind___init__ dcKind___init__ pmKind___init__ cdKind___init__ ctKind___init__ : Value}
    {fKind_signed : Addr} {odKind_signed anKind_signed : Option Addr} {slKind_signed : Array (Option Value)} {ocKind_signed kVKind_signed dcKind_signed pmKind_signed cdKind_signed ctKind_signed : Value}
    {pKind_signed : Addr} {restKind_signed : List Value}
    {fKind_unsigned : Addr} {odKind_unsigned anKind_unsigned : Option Addr} {slKind_unsigned : Array (Option Value)} {ocKind_unsigned kVKind_unsigned dcKind_unsigned pmKind_unsigned cdKind_unsigned ctKind_unsigned : Value}
    {pKind_unsigned : Addr} {restKind_unsigned : List Value}
    {fKind_digits : Addr} {odKind_digits anKind_digits : Option Addr} {slKind_digits : Array (Option Value)} {ocKind_digits kVKind_digits dcKind_digits pmKind_digits cdKind_digits ctKind_digits : Value}
    {pKind_digits : Addr} {restKind_digits : List Value}
    {fKind_read : Addr} {odKind_read anKind_read : Option Addr} {slKind_read : Array (Option Value)} {ocKind_read kVKind_read dcKind_read pmKind_read cdKind_read ctKind_read : Value}
    {pKind_read : Addr} {restKind_read : List Value}
    {fKind___eq__ : Addr} {odKind___eq__ anKind___eq__ : Option Addr} {slKind___eq__ : Array (Option Value)} {ocKind___eq__ kVKind___eq__ dcKind___eq__ pmKind___eq__ cdKind___eq__ ctKind___eq__ : Value}
    {fKind___str__ : Addr} {odKind___str__ anKind___str__ : Option Addr} {slKind___str__ : Array (Option Value)} {ocKind___str__ kVKind___str__ dcKind___str__ pmKind___str__ cdKind___str__ ctKind___str__ : Value}
    {f_power_of_ten : Addr} {od_power_of_ten an_power_of_ten : Option Addr} {sl_power_of_ten : Array (Option Value)} {oc_power_of_ten kV_power_of_ten dc_power_of_ten pm_power_of_ten cd_power_of_ten ct_power_of_ten : Value}
    {f_law_pot_of : Addr} {od_law_pot_of an_law_pot_of : Option Addr} {sl_law_pot_of : Array (Option Value)} {oc_law_pot_of kV_law_pot_of dc_law_pot_of pm_law_pot_of cd_law_pot_of ct_law_pot_of : Value}
    {f_law_take : Addr} {od_law_take an_law_take : Option Addr} {sl_law_take : Array (Option Value)} {oc_law_take kV_law_take dc_law_take pm_law_take cd_law_take ct_law_take : Value}
    {f_law_of : Addr} {od_law_of an_law_of : Option Addr} {sl_law_of : Array (Option Value)} {oc_law_of kV_law_of dc_law_of pm_law_of cd_law_of ct_law_of : Value}
    {f_law_number : Addr} {od_law_number an_law_number : Option Addr} {sl_law_number : Array (Option Value)} {oc_law_number kV_law_number dc_law_number pm_law_number cd_law_number ct_law_number : Value}
    {f_law_ends : Addr} {od_law_ends an_law_ends : Option Addr} {sl_law_ends : Array (Option Value)} {oc_law_ends kV_law_ends dc_law_ends pm_law_ends cd_law_ends ct_law_ends : Value}
    {f_law_half : Addr} {od_law_half an_law_half : Option Addr} {sl_law_half : Array (Option Value)} {oc_law_half kV_law_half dc_law_half pm_law_half cd_law_half ct_law_half : Value}
    {f_law_text : Addr} {od_law_text an_law_text : Option Addr} {sl_law_text : Array (Option Value)} {oc_law_text kV_law_text dc_law_text pm_law_text cd_law_text ct_law_text : Value}
    {f_law_bent : Addr} {od_law_bent an_law_bent : Option Addr} {sl_law_bent : Array (Option Value)} {oc_law_bent kV_law_bent dc_law_bent pm_law_bent cd_law_bent ct_law_bent : Value}
    {f_law_heard : Addr} {od_law_heard an_law_heard : Option Addr} {sl_law_heard : Array (Option Value)} {oc_law_heard kV_law_heard dc_law_heard pm_law_heard cd_law_heard ct_law_heard : Value}
    {f_law_right : Addr} {od_law_right an_law_right : Option Addr} {sl_law_right : Array (Option Value)} {oc_law_right kV_law_right dc_law_right pm_law_right cd_law_right ct_law_right : Value}
    {flaw : Addr} {odlaw anlaw : Option Addr} {sllaw : Array (Option Value)} {oclaw kVlaw dclaw pmlaw cdlaw ctlaw : Value}
    (X : K.In h) (G : h.Ns mainGlobals mg) (hfa : mg "law" = some (.ref fa))
    (haC : PySem.W.nsIn K mainGlobals "Kind" = some (some (.ref C)))
    (hpg : PySem.W.plainGet K C Str.empty = true)
    (hhd : PySem.W.hasDictIn K C = true)
    (hpo : PySem.W.plainOver K C = true)
    (hsa : PySem.W.findIn K (.ref C) "__setattr__" = some (some (.builtin "object.__setattr__")))
    (hmk : PySem.W.makesIn K C = true)
    (hkc : PySem.W.keepIn K (.ref C) = true)
    (hnlow : PySem.W.findIn K (.ref C) "low" = some none)
    (hnhigh : PySem.W.findIn K (.ref C) "high" = some none)
    (hnsize : PySem.W.findIn K (.ref C) "size" = some none)
    (heStr : PySem.W.nsIn K mainGlobals "str" = some none)
    (heW0 : PySem.W.nsIn K mainGlobals "WidthError" = some (some (.ref CW)))
    (heW1 : PySem.W.subIn K (.ref CW) (.type "BaseException") = some true)
    (heW2 : PySem.W.hasDictIn K CW = true)
    (heW3 : PySem.W.typeIn K (.ref CW) = some (.type "type"))
    (heW4 : PySem.W.specialIn K (.builtin "object.__class__") "__get__" = some (some (.builtin "getset_descriptor.__get__")))
    (heW5 : PySem.W.takesIn K (.builtin "object.__class__") = some true)
    (heW6 : PySem.W.nsIn K mainGlobals "ValueError" = some none)
    (he0BadBits : PySem.W.nsIn K mainGlobals "BadBits" = some (some (.ref C_BadBits)))
    (he1BadBits : K.lookup C_BadBits = some (excClassObj nmBadBits qBadBits C_BadBits NBadBits bsBadBits [.ref CW, .type "ValueError", .type "Exception", .type "BaseException", .type "object"] true snBadBits subBadBits abBadBits colBadBits ddBadBits m0BadBits m1BadBits m2BadBits m3BadBits m5BadBits "ValueError.__new__"))
    (he2BadBits : PySem.W.findIn K (.ref C_BadBits) "__setattr__" = some (some (.builtin "object.__setattr__")))
    (he3BadBits : PySem.W.findIn K (.ref C_BadBits) "__getattribute__" = some (some (.builtin "BaseException.__getattribute__")))
    (he4BadBits : PySem.W.findIn K (.ref C_BadBits) "__getattr__" = some none)
    (he6BadBits : PySem.W.keepIn K (.ref C_BadBits) = true)
    (he7BadBits : PySem.W.subIn K (.ref C_BadBits) (.type "BaseException") = some true)
    (he8BadBits : PySem.W.typeIn K (.ref C_BadBits) = some (.type "type"))
    (he9BadBits : PySem.W.hasDictIn K C_BadBits = true)
    (heaBadBits : PySem.W.findIn K (.ref C_BadBits) "__class__" = some (some (.builtin "object.__class__")))
    (hebBadBits : PySem.W.mroIn K C_BadBits (.type "object") = some true)
    (hedBadBits : PySem.W.subIn K (.ref C_BadBits) (.type "ValueError") = some true)
    (heeBadBits : PySem.W.subIn K (.ref C_BadBits) (.ref CW) = some true)
    (hevBadBitsvalue : PySem.W.findIn K (.ref C_BadBits) "value" = some none)
    (he0BadKind : PySem.W.nsIn K mainGlobals "BadKind" = some (some (.ref C_BadKind)))
    (he1BadKind : K.lookup C_BadKind = some (excClassObj nmBadKind qBadKind C_BadKind NBadKind bsBadKind [.ref CW, .type "ValueError", .type "Exception", .type "BaseException", .type "object"] true snBadKind subBadKind abBadKind colBadKind ddBadKind m0BadKind m1BadKind m2BadKind m3BadKind m5BadKind "ValueError.__new__"))
    (he2BadKind : PySem.W.findIn K (.ref C_BadKind) "__setattr__" = some (some (.builtin "object.__setattr__")))
    (he3BadKind : PySem.W.findIn K (.ref C_BadKind) "__getattribute__" = some (some (.builtin "BaseException.__getattribute__")))
    (he4BadKind : PySem.W.findIn K (.ref C_BadKind) "__getattr__" = some none)
    (he6BadKind : PySem.W.keepIn K (.ref C_BadKind) = true)
    (he7BadKind : PySem.W.subIn K (.ref C_BadKind) (.type "BaseException") = some true)
    (he8BadKind : PySem.W.typeIn K (.ref C_BadKind) = some (.type "type"))
    (he9BadKind : PySem.W.hasDictIn K C_BadKind = true)
    (heaBadKind : PySem.W.findIn K (.ref C_BadKind) "__class__" = some (some (.builtin "object.__class__")))
    (hebBadKind : PySem.W.mroIn K C_BadKind (.type "object") = some true)
    (hedBadKind : PySem.W.subIn K (.ref C_BadKind) (.type "ValueError") = some true)
    (heeBadKind : PySem.W.subIn K (.ref C_BadKind) (.ref CW) = some true)
    (hevBadKindone : PySem.W.findIn K (.ref C_BadKind) "one" = some none)
    (hevBadKindother : PySem.W.findIn K (.ref C_BadKind) "other" = some none)
    (he0BadText : PySem.W.nsIn K mainGlobals "BadText" = some (some (.ref C_BadText)))
    (he1BadText : K.lookup C_BadText = some (excClassObj nmBadText qBadText C_BadText NBadText bsBadText [.ref CW, .type "ValueError", .type "Exception", .type "BaseException", .type "object"] true snBadText subBadText abBadText colBadText ddBadText m0BadText m1BadText m2BadText m3BadText m5BadText "ValueError.__new__"))
    (he2BadText : PySem.W.findIn K (.ref C_BadText) "__setattr__" = some (some (.builtin "object.__setattr__")))
    (he3BadText : PySem.W.findIn K (.ref C_BadText) "__getattribute__" = some (some (.builtin "BaseException.__getattribute__")))
    (he4BadText : PySem.W.findIn K (.ref C_BadText) "__getattr__" = some none)
    (he6BadText : PySem.W.keepIn K (.ref C_BadText) = true)
    (he7BadText : PySem.W.subIn K (.ref C_BadText) (.type "BaseException") = some true)
    (he8BadText : PySem.W.typeIn K (.ref C_BadText) = some (.type "type"))
    (he9BadText : PySem.W.hasDictIn K C_BadText = true)
    (heaBadText : PySem.W.findIn K (.ref C_BadText) "__class__" = some (some (.builtin "object.__class__")))
    (hebBadText : PySem.W.mroIn K C_BadText (.type "object") = some true)
    (hedBadText : PySem.W.subIn K (.ref C_BadText) (.type "ValueError") = some true)
    (heeBadText : PySem.W.subIn K (.ref C_BadText) (.ref CW) = some true)
    (hevBadTextvalue : PySem.W.findIn K (.ref C_BadText) "value" = some none)
    (hrd : PySem.W.readsIn K C (.type "type") = true)
    (hga : PySem.W.specialIn K (.ref C) "__getattribute__" = some (some (.builtin "type.__getattribute__")))
    (hgB : PySem.W.nsIn K mainGlobals "MOST_BITS" = some (some (.int 56 tb)))
    (hgD : PySem.W.nsIn K mainGlobals "MOST_DIGITS" = some (some (.int 17 td)))
    (hgF : PySem.W.nsIn K mainGlobals "MOST_FIGURES" = some (some (.int 18 tf)))
    (hx11 : PySem.W.subIn K (.ref C_BadBits) (.ref C_BadBits) = some true)
    (hx12 : PySem.W.subIn K (.ref C_BadBits) (.ref C_BadKind) = some false)
    (hx21 : PySem.W.subIn K (.ref C_BadKind) (.ref C_BadBits) = some false)
    (hx22 : PySem.W.subIn K (.ref C_BadKind) (.ref C_BadKind) = some true)
    (heO1 : PySem.W.findIn K (.ref C) "__class__" = some (some (.builtin "object.__class__")))
    (heO4 : PySem.W.mroIn K C (.type "object") = some true)
    (heO5 : PySem.W.selfFirst K C = true)
    (heO6 : PySem.W.findIn K (.ref C) "__ne__" = some (some (.builtin "object.__ne__")))
    (haBadBits___init__ : PySem.W.findIn K (.ref C_BadBits) "__init__" = some (some (.ref fBadBits___init__)))
    (hiBadBits___init__ : PySem.W.isFn K (.ref fBadBits___init__) = true)
    (hlBadBits___init__ : K.lookup fBadBits___init__ = some ⟨ocBadBits___init__, odBadBits___init__, .func (PySem.W.fnOf "__init__" "BadBits.__init__" (defArgs s_BadBits___init__) (defBody s_BadBits___init__) (defScope s_BadBits___init__) .none kVBadBits___init__ dcBadBits___init__ pmBadBits___init__ anBadBits___init__ cdBadBits___init__ ctBadBits___init__), slBadBits___init__⟩)
    (hcBadBits___init__ : PySem.W.codeIn K cdBadBits___init__ "BadBits.__init__" = true)
    (hkBadBits___init__ : PySem.W.keepIn K (.ref fBadBits___init__) = true)
    (haBadKind___init__ : PySem.W.findIn K (.ref C_BadKind) "__init__" = some (some (.ref fBadKind___init__)))
    (hiBadKind___init__ : PySem.W.isFn K (.ref fBadKind___init__) = true)
    (hlBadKind___init__ : K.lookup fBadKind___init__ = some ⟨ocBadKind___init__, odBadKind___init__, .func (PySem.W.fnOf "__init__" "BadKind.__init__" (defArgs s_BadKind___init__) (defBody s_BadKind___init__) (defScope s_BadKind___init__) .none kVBadKind___init__ dcBadKind___init__ pmBadKind___init__ anBadKind___init__ cdBadKind___init__ ctBadKind___init__), slBadKind___init__⟩)
    (hcBadKind___init__ : PySem.W.codeIn K cdBadKind___init__ "BadKind.__init__" = true)
    (hkBadKind___init__ : PySem.W.keepIn K (.ref fBadKind___init__) = true)
    (haBadText___init__ : PySem.W.findIn K (.ref C_BadText) "__init__" = some (some (.ref fBadText___init__)))
    (hiBadText___init__ : PySem.W.isFn K (.ref fBadText___init__) = true)
    (hlBadText___init__ : K.lookup fBadText___init__ = some ⟨ocBadText___init__, odBadText___init__, .func (PySem.W.fnOf "__init__" "BadText.__init__" (defArgs s_BadText___init__) (defBody s_BadText___init__) (defScope s_BadText___init__) .none kVBadText___init__ dcBadText___init__ pmBadText___init__ anBadText___init__ cdBadText___init__ ctBadText___init__), slBadText___init__⟩)
    (hcBadText___init__ : PySem.W.codeIn K cdBadText___init__ "BadText.__init__" = true)
    (hkBadText___init__ : PySem.W.keepIn K (.ref fBadText___init__) = true)
    (hais_integer : PySem.W.nsIn K mainGlobals "is_integer" = some (some (.ref fis_integer)))
    (hlis_integer : K.lookup fis_integer = some ⟨ocis_integer, odis_integer, .func (PySem.W.fnOf "is_integer" "is_integer" (defArgs s_is_integer) (defBody s_is_integer) (defScope s_is_integer) .none kVis_integer dcis_integer pmis_integer anis_integer cdis_integer ctis_integer), slis_integer⟩)
    (hcis_integer : PySem.W.codeIn K cdis_integer "is_integer" = true)
    (hkis_integer : PySem.W.keepIn K (.ref fis_integer) = true)
    (hais_between : PySem.W.nsIn K mainGlobals "is_between" = some (some (.ref fis_between)))
    (hlis_between : K.lookup fis_between = some ⟨ocis_between, odis_between, .func (PySem.W.fnOf "is_between" "is_between" (defArgs s_is_between) (defBody s_is_between) (defScope s_is_between) .none kVis_between dcis_between pmis_between anis_between cdis_between ctis_between), slis_between⟩)
    (hcis_between : PySem.W.codeIn K cdis_between "is_between" = true)
    (hkis_between : PySem.W.keepIn K (.ref fis_between) = true)
    (haread_integer : PySem.W.nsIn K mainGlobals "read_integer" = some (some (.ref fread_integer)))
    (hlread_integer : K.lookup fread_integer = some ⟨ocread_integer, odread_integer, .func (PySem.W.fnOf "read_integer" "read_integer" (defArgs s_read_integer) (defBody s_read_integer) (defScope s_read_integer) .none kVread_integer dcread_integer pmread_integer anread_integer cdread_integer ctread_integer), slread_integer⟩)
    (hcread_integer : PySem.W.codeIn K cdread_integer "read_integer" = true)
    (hkread_integer : PySem.W.keepIn K (.ref fread_integer) = true)
    (haKind___init__ : PySem.W.findIn K (.ref C) "__init__" = some (some (.ref fKind___init__)))
    (hiKind___init__ : PySem.W.isFn K (.ref fKind___init__) = true)
    (hlKind___init__ : K.lookup fKind___init__ = some ⟨ocKind___init__, odKind___init__, .func (PySem.W.fnOf "__init__" "Kind.__init__" (defArgs s_Kind___init__) (defBody s_Kind___init__) (defScope s_Kind___init__) .none kVKind___init__ dcKind___init__ pmKind___init__ anKind___init__ cdKind___init__ ctKind___init__), slKind___init__⟩)
    (hcKind___init__ : PySem.W.codeIn K cdKind___init__ "Kind.__init__" = true)
    (hkKind___init__ : PySem.W.keepIn K (.ref fKind___init__) = true)
    (hs1Kind_signed : PySem.W.findCls K (.ref C) (.type "type") "signed" = some (.get (.builtin "classmethod.__get__") (.ref pKind_signed) .none (.ref C)))
    (hs2Kind_signed : PySem.W.recIn K pKind_signed "classmethod" = some (.ref fKind_signed :: restKind_signed))
    (hs3Kind_signed : PySem.W.fnIn K fKind_signed = true)
    (hlKind_signed : K.lookup fKind_signed = some ⟨ocKind_signed, odKind_signed, .func (PySem.W.fnOf "signed" "Kind.signed" (defArgs s_Kind_signed) (defBody s_Kind_signed) (defScope s_Kind_signed) .none kVKind_signed dcKind_signed pmKind_signed anKind_signed cdKind_signed ctKind_signed), slKind_signed⟩)
    (hcKind_signed : PySem.W.codeIn K cdKind_signed "Kind.signed" = true)
    (hkKind_signed : PySem.W.keepIn K (.ref fKind_signed) = true)
    (hs1Kind_unsigned : PySem.W.findCls K (.ref C) (.type "type") "unsigned" = some (.get (.builtin "classmethod.__get__") (.ref pKind_unsigned) .none (.ref C)))
    (hs2Kind_unsigned : PySem.W.recIn K pKind_unsigned "classmethod" = some (.ref fKind_unsigned :: restKind_unsigned))
    (hs3Kind_unsigned : PySem.W.fnIn K fKind_unsigned = true)
    (hlKind_unsigned : K.lookup fKind_unsigned = some ⟨ocKind_unsigned, odKind_unsigned, .func (PySem.W.fnOf "unsigned" "Kind.unsigned" (defArgs s_Kind_unsigned) (defBody s_Kind_unsigned) (defScope s_Kind_unsigned) .none kVKind_unsigned dcKind_unsigned pmKind_unsigned anKind_unsigned cdKind_unsigned ctKind_unsigned), slKind_unsigned⟩)
    (hcKind_unsigned : PySem.W.codeIn K cdKind_unsigned "Kind.unsigned" = true)
    (hkKind_unsigned : PySem.W.keepIn K (.ref fKind_unsigned) = true)
    (hs1Kind_digits : PySem.W.findCls K (.ref C) (.type "type") "digits" = some (.get (.builtin "classmethod.__get__") (.ref pKind_digits) .none (.ref C)))
    (hs2Kind_digits : PySem.W.recIn K pKind_digits "classmethod" = some (.ref fKind_digits :: restKind_digits))
    (hs3Kind_digits : PySem.W.fnIn K fKind_digits = true)
    (hlKind_digits : K.lookup fKind_digits = some ⟨ocKind_digits, odKind_digits, .func (PySem.W.fnOf "digits" "Kind.digits" (defArgs s_Kind_digits) (defBody s_Kind_digits) (defScope s_Kind_digits) .none kVKind_digits dcKind_digits pmKind_digits anKind_digits cdKind_digits ctKind_digits), slKind_digits⟩)
    (hcKind_digits : PySem.W.codeIn K cdKind_digits "Kind.digits" = true)
    (hkKind_digits : PySem.W.keepIn K (.ref fKind_digits) = true)
    (hs1Kind_read : PySem.W.findCls K (.ref C) (.type "type") "read" = some (.get (.builtin "classmethod.__get__") (.ref pKind_read) .none (.ref C)))
    (hs2Kind_read : PySem.W.recIn K pKind_read "classmethod" = some (.ref fKind_read :: restKind_read))
    (hs3Kind_read : PySem.W.fnIn K fKind_read = true)
    (hlKind_read : K.lookup fKind_read = some ⟨ocKind_read, odKind_read, .func (PySem.W.fnOf "read" "Kind.read" (defArgs s_Kind_read) (defBody s_Kind_read) (defScope s_Kind_read) .none kVKind_read dcKind_read pmKind_read anKind_read cdKind_read ctKind_read), slKind_read⟩)
    (hcKind_read : PySem.W.codeIn K cdKind_read "Kind.read" = true)
    (hkKind_read : PySem.W.keepIn K (.ref fKind_read) = true)
    (haKind___eq__ : PySem.W.findIn K (.ref C) "__eq__" = some (some (.ref fKind___eq__)))
    (hiKind___eq__ : PySem.W.isFn K (.ref fKind___eq__) = true)
    (hlKind___eq__ : K.lookup fKind___eq__ = some ⟨ocKind___eq__, odKind___eq__, .func (PySem.W.fnOf "__eq__" "Kind.__eq__" (defArgs s_Kind___eq__) (defBody s_Kind___eq__) (defScope s_Kind___eq__) .none kVKind___eq__ dcKind___eq__ pmKind___eq__ anKind___eq__ cdKind___eq__ ctKind___eq__), slKind___eq__⟩)
    (hcKind___eq__ : PySem.W.codeIn K cdKind___eq__ "Kind.__eq__" = true)
    (hkKind___eq__ : PySem.W.keepIn K (.ref fKind___eq__) = true)
    (haKind___str__ : PySem.W.findIn K (.ref C) "__str__" = some (some (.ref fKind___str__)))
    (hiKind___str__ : PySem.W.isFn K (.ref fKind___str__) = true)
    (hlKind___str__ : K.lookup fKind___str__ = some ⟨ocKind___str__, odKind___str__, .func (PySem.W.fnOf "__str__" "Kind.__str__" (defArgs s_Kind___str__) (defBody s_Kind___str__) (defScope s_Kind___str__) .none kVKind___str__ dcKind___str__ pmKind___str__ anKind___str__ cdKind___str__ ctKind___str__), slKind___str__⟩)
    (hcKind___str__ : PySem.W.codeIn K cdKind___str__ "Kind.__str__" = true)
    (hkKind___str__ : PySem.W.keepIn K (.ref fKind___str__) = true)
    (ha_power_of_ten : PySem.W.nsIn K mainGlobals "_power_of_ten" = some (some (.ref f_power_of_ten)))
    (hl_power_of_ten : K.lookup f_power_of_ten = some ⟨oc_power_of_ten, od_power_of_ten, .func (PySem.W.fnOf "_power_of_ten" "_power_of_ten" (defArgs s__power_of_ten) (defBody s__power_of_ten) (defScope s__power_of_ten) .none kV_power_of_ten dc_power_of_ten pm_power_of_ten an_power_of_ten cd_power_of_ten ct_power_of_ten), sl_power_of_ten⟩)
    (hc_power_of_ten : PySem.W.codeIn K cd_power_of_ten "_power_of_ten" = true)
    (hk_power_of_ten : PySem.W.keepIn K (.ref f_power_of_ten) = true)
    (ha_law_pot_of : PySem.W.nsIn K mainGlobals "_law_pot_of" = some (some (.ref f_law_pot_of)))
    (hl_law_pot_of : K.lookup f_law_pot_of = some ⟨oc_law_pot_of, od_law_pot_of, .func (PySem.W.fnOf "_law_pot_of" "_law_pot_of" (defArgs s__law_pot_of) (defBody s__law_pot_of) (defScope s__law_pot_of) .none kV_law_pot_of dc_law_pot_of pm_law_pot_of an_law_pot_of cd_law_pot_of ct_law_pot_of), sl_law_pot_of⟩)
    (hc_law_pot_of : PySem.W.codeIn K cd_law_pot_of "_law_pot_of" = true)
    (hk_law_pot_of : PySem.W.keepIn K (.ref f_law_pot_of) = true)
    (ha_law_take : PySem.W.nsIn K mainGlobals "_law_take" = some (some (.ref f_law_take)))
    (hl_law_take : K.lookup f_law_take = some ⟨oc_law_take, od_law_take, .func (PySem.W.fnOf "_law_take" "_law_take" (defArgs s__law_take) (defBody s__law_take) (defScope s__law_take) .none kV_law_take dc_law_take pm_law_take an_law_take cd_law_take ct_law_take), sl_law_take⟩)
    (hc_law_take : PySem.W.codeIn K cd_law_take "_law_take" = true)
    (hk_law_take : PySem.W.keepIn K (.ref f_law_take) = true)
    (ha_law_of : PySem.W.nsIn K mainGlobals "_law_of" = some (some (.ref f_law_of)))
    (hl_law_of : K.lookup f_law_of = some ⟨oc_law_of, od_law_of, .func (PySem.W.fnOf "_law_of" "_law_of" (defArgs s__law_of) (defBody s__law_of) (defScope s__law_of) .none kV_law_of dc_law_of pm_law_of an_law_of cd_law_of ct_law_of), sl_law_of⟩)
    (hc_law_of : PySem.W.codeIn K cd_law_of "_law_of" = true)
    (hk_law_of : PySem.W.keepIn K (.ref f_law_of) = true)
    (ha_law_number : PySem.W.nsIn K mainGlobals "_law_number" = some (some (.ref f_law_number)))
    (hl_law_number : K.lookup f_law_number = some ⟨oc_law_number, od_law_number, .func (PySem.W.fnOf "_law_number" "_law_number" (defArgs s__law_number) (defBody s__law_number) (defScope s__law_number) .none kV_law_number dc_law_number pm_law_number an_law_number cd_law_number ct_law_number), sl_law_number⟩)
    (hc_law_number : PySem.W.codeIn K cd_law_number "_law_number" = true)
    (hk_law_number : PySem.W.keepIn K (.ref f_law_number) = true)
    (ha_law_ends : PySem.W.nsIn K mainGlobals "_law_ends" = some (some (.ref f_law_ends)))
    (hl_law_ends : K.lookup f_law_ends = some ⟨oc_law_ends, od_law_ends, .func (PySem.W.fnOf "_law_ends" "_law_ends" (defArgs s__law_ends) (defBody s__law_ends) (defScope s__law_ends) .none kV_law_ends dc_law_ends pm_law_ends an_law_ends cd_law_ends ct_law_ends), sl_law_ends⟩)
    (hc_law_ends : PySem.W.codeIn K cd_law_ends "_law_ends" = true)
    (hk_law_ends : PySem.W.keepIn K (.ref f_law_ends) = true)
    (ha_law_half : PySem.W.nsIn K mainGlobals "_law_half" = some (some (.ref f_law_half)))
    (hl_law_half : K.lookup f_law_half = some ⟨oc_law_half, od_law_half, .func (PySem.W.fnOf "_law_half" "_law_half" (defArgs s__law_half) (defBody s__law_half) (defScope s__law_half) .none kV_law_half dc_law_half pm_law_half an_law_half cd_law_half ct_law_half), sl_law_half⟩)
    (hc_law_half : PySem.W.codeIn K cd_law_half "_law_half" = true)
    (hk_law_half : PySem.W.keepIn K (.ref f_law_half) = true)
    (ha_law_text : PySem.W.nsIn K mainGlobals "_law_text" = some (some (.ref f_law_text)))
    (hl_law_text : K.lookup f_law_text = some ⟨oc_law_text, od_law_text, .func (PySem.W.fnOf "_law_text" "_law_text" (defArgs s__law_text) (defBody s__law_text) (defScope s__law_text) .none kV_law_text dc_law_text pm_law_text an_law_text cd_law_text ct_law_text), sl_law_text⟩)
    (hc_law_text : PySem.W.codeIn K cd_law_text "_law_text" = true)
    (hk_law_text : PySem.W.keepIn K (.ref f_law_text) = true)
    (ha_law_bent : PySem.W.nsIn K mainGlobals "_law_bent" = some (some (.ref f_law_bent)))
    (hl_law_bent : K.lookup f_law_bent = some ⟨oc_law_bent, od_law_bent, .func (PySem.W.fnOf "_law_bent" "_law_bent" (defArgs s__law_bent) (defBody s__law_bent) (defScope s__law_bent) .none kV_law_bent dc_law_bent pm_law_bent an_law_bent cd_law_bent ct_law_bent), sl_law_bent⟩)
    (hc_law_bent : PySem.W.codeIn K cd_law_bent "_law_bent" = true)
    (hk_law_bent : PySem.W.keepIn K (.ref f_law_bent) = true)
    (ha_law_heard : PySem.W.nsIn K mainGlobals "_law_heard" = some (some (.ref f_law_heard)))
    (hl_law_heard : K.lookup f_law_heard = some ⟨oc_law_heard, od_law_heard, .func (PySem.W.fnOf "_law_heard" "_law_heard" (defArgs s__law_heard) (defBody s__law_heard) (defScope s__law_heard) .none kV_law_heard dc_law_heard pm_law_heard an_law_heard cd_law_heard ct_law_heard), sl_law_heard⟩)
    (hc_law_heard : PySem.W.codeIn K cd_law_heard "_law_heard" = true)
    (hk_law_heard : PySem.W.keepIn K (.ref f_law_heard) = true)
    (ha_law_right : PySem.W.nsIn K mainGlobals "_law_right" = some (some (.ref f_law_right)))
    (hl_law_right : K.lookup f_law_right = some ⟨oc_law_right, od_law_right, .func (PySem.W.fnOf "_law_right" "_law_right" (defArgs s__law_right) (defBody s__law_right) (defScope s__law_right) .none kV_law_right dc_law_right pm_law_right an_law_right cd_law_right ct_law_right), sl_law_right⟩)
    (hc_law_right : PySem.W.codeIn K cd_law_right "_law_right" = true)
    (hk_law_right : PySem.W.keepIn K (.ref f_law_right) = true)
    (halaw : PySem.W.nsIn K mainGlobals "law" = some (some (.ref flaw)))
    (hllaw : K.lookup flaw = some ⟨oclaw, odlaw, .func (PySem.W.fnOf "law" "law" (defArgs s_law) (defBody s_law) (defScope s_law) .none kVlaw dclaw pmlaw anlaw cdlaw ctlaw), sllaw⟩)
    (hclaw : PySem.W.codeIn K cdlaw "law" = true)
    (hklaw : PySem.W.keepIn K (.ref flaw) = true)
    (hefBadBits : PySem.W.typeIn K (.ref fBadBits___init__) = some (.type "function"))
    (hefBadKind : PySem.W.typeIn K (.ref fBadKind___init__) = some (.type "function"))
    (hefBadText : PySem.W.typeIn K (.ref fBadText___init__) = some (.type "function"))
    (hzint : PySem.W.nsIn K mainGlobals "int" = some none)
    (hzlen : PySem.W.nsIn K mainGlobals "len" = some none)
    (hzabs : PySem.W.nsIn K mainGlobals "abs" = some none)
    (hzbool : PySem.W.nsIn K mainGlobals "bool" = some none)
    (hztuple : PySem.W.nsIn K mainGlobals "tuple" = some none)
    (hzisinstance : PySem.W.nsIn K mainGlobals "isinstance" = some none)
    (hzrange : PySem.W.nsIn K mainGlobals "range" = some none)
    (hzmax : PySem.W.nsIn K mainGlobals "max" = some none)
    (hzmin : PySem.W.nsIn K mainGlobals "min" = some none)
    (hzall : PySem.W.nsIn K mainGlobals "all" = some none)
    (hzrepr : PySem.W.nsIn K mainGlobals "repr" = some none) :
    ∃ fd : FuncData, (∀ (s : Shared) (v : Value), BindsTo s fd ⟨[v], []⟩ [("_law_script", v)]) ∧ ∀ base : Heap, K.In base → base.Ns mainGlobals mg → FnG l.prog w K mg base CX0 9 fa fd P_law (spLaw K) := by
  have e := hfa.symm.trans (PySem.W.mg_of X G halaw)
  cases e
  have T : Txt mg := ⟨PySem.W.mg_none_of X G hzint, PySem.W.mg_none_of X G hzlen, PySem.W.mg_none_of X G hzabs, PySem.W.mg_none_of X G hzbool, PySem.W.mg_none_of X G hztuple, PySem.W.mg_none_of X G hzisinstance, PySem.W.mg_none_of X G hzrange, PySem.W.mg_none_of X G hzmax, PySem.W.mg_none_of X G hzmin, PySem.W.mg_none_of X G hzall, PySem.W.mg_none_of X G hzrepr⟩
  have KT : KindT K C := ⟨⟨hpg, hhd, hpo, hsa⟩, hnlow, hnhigh, hnsize⟩
  have KO : KindO K C := ⟨⟨KT.cl, heO1, heW4, heW5, heO4, if_pos (beq_self_eq_true _)⟩, heO5, heO6⟩
  have gKind := PySem.W.mg_of X G haC
  have ET_BadBits : ErrT K mg CW C_BadBits "BadBits" := { ox := ⟨⟨nmBadBits, qBadBits, NBadBits, bsBadBits, _, snBadBits, subBadBits, abBadBits, colBadBits, ddBadBits, m0BadBits, m1BadBits, m2BadBits, m3BadBits, m5BadBits, he1BadBits, rfl⟩, he2BadBits, he7BadBits, he8BadBits, he6BadBits⟩, ek := ⟨by unfold PySem.W.clsIn; rw [he1BadBits]; rfl, he3BadBits, he4BadBits, he7BadBits, heaBadBits, heW4, heW5, hebBadBits, he9BadBits⟩, nv := hevBadBitsvalue, me := PySem.W.exm_ref heW1 heW2 heW3 heeBadBits, kc := if_pos (beq_self_eq_true _), kv := kit_sub (by decide +kernel) hedBadBits, g := PySem.W.mg_of X G he0BadBits }
  have ET_BadKind : ErrT2 K mg CW C_BadKind "BadKind" "one" "other" := { ox := ⟨⟨nmBadKind, qBadKind, NBadKind, bsBadKind, _, snBadKind, subBadKind, abBadKind, colBadKind, ddBadKind, m0BadKind, m1BadKind, m2BadKind, m3BadKind, m5BadKind, he1BadKind, rfl⟩, he2BadKind, he7BadKind, he8BadKind, he6BadKind⟩, ek := ⟨by unfold PySem.W.clsIn; rw [he1BadKind]; rfl, he3BadKind, he4BadKind, he7BadKind, heaBadKind, heW4, heW5, hebBadKind, he9BadKind⟩, n1 := hevBadKindone, n2 := hevBadKindother, me := PySem.W.exm_ref heW1 heW2 heW3 heeBadKind, kc := if_pos (beq_self_eq_true _), kv := kit_sub (by decide +kernel) hedBadKind, g := PySem.W.mg_of X G he0BadKind }
  have ET_BadText : ErrT K mg CW C_BadText "BadText" := { ox := ⟨⟨nmBadText, qBadText, NBadText, bsBadText, _, snBadText, subBadText, abBadText, colBadText, ddBadText, m0BadText, m1BadText, m2BadText, m3BadText, m5BadText, he1BadText, rfl⟩, he2BadText, he7BadText, he8BadText, he6BadText⟩, ek := ⟨by unfold PySem.W.clsIn; rw [he1BadText]; rfl, he3BadText, he4BadText, he7BadText, heaBadText, heW4, heW5, hebBadText, he9BadText⟩, nv := hevBadTextvalue, me := PySem.W.exm_ref heW1 heW2 heW3 heeBadText, kc := if_pos (beq_self_eq_true _), kv := kit_sub (by decide +kernel) hedBadText, g := PySem.W.mg_of X G he0BadText }
  have n_str := PySem.W.mg_none_of X G heStr
  have n_ve := PySem.W.mg_none_of X G heW6
  have g_WidthError := PySem.W.mg_of X G heW0
  have FBadBits___init__ := fun_mk (st := s_BadBits___init__) hlBadBits___init__ hcBadBits___init__ hkBadBits___init__
  have bBadBits___init__ := FBadBits___init__.binds (ps := P_BadBits___init__) fun _ _ _ _ _ _ us hl => match us, hl with | [_, _], _ => rfl
  have FBadKind___init__ := fun_mk (st := s_BadKind___init__) hlBadKind___init__ hcBadKind___init__ hkBadKind___init__
  have bBadKind___init__ := FBadKind___init__.binds (ps := P_BadKind___init__) fun _ _ _ _ _ _ us hl => match us, hl with | [_, _, _], _ => rfl
  have FBadText___init__ := fun_mk (st := s_BadText___init__) hlBadText___init__ hcBadText___init__ hkBadText___init__
  have bBadText___init__ := FBadText___init__.binds (ps := P_BadText___init__) fun _ _ _ _ _ _ us hl => match us, hl with | [_, _], _ => rfl
  have Fis_integer := fun_mk (st := s_is_integer) hlis_integer hcis_integer hkis_integer
  have bis_integer := Fis_integer.binds (ps := P_is_integer) fun _ _ _ _ _ _ us hl => match us, hl with | [_], _ => rfl
  have Fis_between := fun_mk (st := s_is_between) hlis_between hcis_between hkis_between
  have bis_between := Fis_between.binds (ps := P_is_between) fun _ _ _ _ _ _ us hl => match us, hl with | [_, _, _], _ => rfl
  have Fread_integer := fun_mk (st := s_read_integer) hlread_integer hcread_integer hkread_integer
  have bread_integer := Fread_integer.binds (ps := P_read_integer) fun _ _ _ _ _ _ us hl => match us, hl with | [_], _ => rfl
  have FKind___init__ := fun_mk (st := s_Kind___init__) hlKind___init__ hcKind___init__ hkKind___init__
  have bKind___init__ := FKind___init__.binds (ps := P_Kind___init__) fun _ _ _ _ _ _ us hl => match us, hl with | [_, _, _], _ => rfl
  have FKind_signed := fun_mk (st := s_Kind_signed) hlKind_signed hcKind_signed hkKind_signed
  have bKind_signed := FKind_signed.binds (ps := P_Kind_signed) fun _ _ _ _ _ _ us hl => match us, hl with | [_, _], _ => rfl
  have FKind_unsigned := fun_mk (st := s_Kind_unsigned) hlKind_unsigned hcKind_unsigned hkKind_unsigned
  have bKind_unsigned := FKind_unsigned.binds (ps := P_Kind_unsigned) fun _ _ _ _ _ _ us hl => match us, hl with | [_, _], _ => rfl
  have FKind_digits := fun_mk (st := s_Kind_digits) hlKind_digits hcKind_digits hkKind_digits
  have bKind_digits := FKind_digits.binds (ps := P_Kind_digits) fun _ _ _ _ _ _ us hl => match us, hl with | [_, _], _ => rfl
  have FKind_read := fun_mk (st := s_Kind_read) hlKind_read hcKind_read hkKind_read
  have bKind_read := FKind_read.binds (ps := P_Kind_read) fun _ _ _ _ _ _ us hl => match us, hl with | [_, _], _ => rfl
  have FKind___eq__ := fun_mk (st := s_Kind___eq__) hlKind___eq__ hcKind___eq__ hkKind___eq__
  have bKind___eq__ := FKind___eq__.binds (ps := P_Kind___eq__) fun _ _ _ _ _ _ us hl => match us, hl with | [_, _], _ => rfl
  have FKind___str__ := fun_mk (st := s_Kind___str__) hlKind___str__ hcKind___str__ hkKind___str__
  have bKind___str__ := FKind___str__.binds (ps := P_Kind___str__) fun _ _ _ _ _ _ us hl => match us, hl with | [_], _ => rfl
  have F_power_of_ten := fun_mk (st := s__power_of_ten) hl_power_of_ten hc_power_of_ten hk_power_of_ten
  have b_power_of_ten := F_power_of_ten.binds (ps := P__power_of_ten) fun _ _ _ _ _ _ us hl => match us, hl with | [_], _ => rfl
  have F_law_pot_of := fun_mk (st := s__law_pot_of) hl_law_pot_of hc_law_pot_of hk_law_pot_of
  have b_law_pot_of := F_law_pot_of.binds (ps := P__law_pot_of) fun _ _ _ _ _ _ us hl => match us, hl with | [_, _], _ => rfl
  have F_law_take := fun_mk (st := s__law_take) hl_law_take hc_law_take hk_law_take
  have b_law_take := F_law_take.binds (ps := P__law_take) fun _ _ _ _ _ _ us hl => match us, hl with | [_, _], _ => rfl
  have F_law_of := fun_mk (st := s__law_of) hl_law_of hc_law_of hk_law_of
  have b_law_of := F_law_of.binds (ps := P__law_of) fun _ _ _ _ _ _ us hl => match us, hl with | [_, _], _ => rfl
  have F_law_number := fun_mk (st := s__law_number) hl_law_number hc_law_number hk_law_number
  have b_law_number := F_law_number.binds (ps := P__law_number) fun _ _ _ _ _ _ us hl => match us, hl with | [_], _ => rfl
  have F_law_ends := fun_mk (st := s__law_ends) hl_law_ends hc_law_ends hk_law_ends
  have b_law_ends := F_law_ends.binds (ps := P__law_ends) fun _ _ _ _ _ _ us hl => match us, hl with | [_], _ => rfl
  have F_law_half := fun_mk (st := s__law_half) hl_law_half hc_law_half hk_law_half
  have b_law_half := F_law_half.binds (ps := P__law_half) fun _ _ _ _ _ _ us hl => match us, hl with | [_], _ => rfl
  have F_law_text := fun_mk (st := s__law_text) hl_law_text hc_law_text hk_law_text
  have b_law_text := F_law_text.binds (ps := P__law_text) fun _ _ _ _ _ _ us hl => match us, hl with | [_], _ => rfl
  have F_law_bent := fun_mk (st := s__law_bent) hl_law_bent hc_law_bent hk_law_bent
  have b_law_bent := F_law_bent.binds (ps := P__law_bent) fun _ _ _ _ _ _ us hl => match us, hl with | [_, _], _ => rfl
  have F_law_heard := fun_mk (st := s__law_heard) hl_law_heard hc_law_heard hk_law_heard
  have b_law_heard := F_law_heard.binds (ps := P__law_heard) fun _ _ _ _ _ _ us hl => match us, hl with | [_], _ => rfl
  have F_law_right := fun_mk (st := s__law_right) hl_law_right hc_law_right hk_law_right
  have b_law_right := F_law_right.binds (ps := P__law_right) fun _ _ _ _ _ _ us hl => match us, hl with | [_], _ => rfl
  have Flaw := fun_mk (st := s_law) hllaw hclaw hklaw
  refine ⟨PySem.W.fnOf "law" "law" (defArgs s_law) (defBody s_law) (defScope s_law) .none kVlaw dclaw pmlaw anlaw cdlaw ctlaw, fun s v => .of_eq rfl, fun base _ _ => ?_⟩
  have TB : TxtB mg tb td tf := ⟨PySem.W.mg_of X G hgB, PySem.W.mg_of X G hgD, PySem.W.mg_of X G hgF⟩
  have CR : ClX.CRead K C (.type "type") := ⟨hrd, hga⟩
  have cis_integer : Cal l.prog w K mg base 1 "is_integer" P_is_integer spIsInt := ⟨fis_integer, _, ok_is_integer Fis_integer T, bis_integer, PySem.W.mg_of X G hais_integer, hkis_integer⟩
  have cEBits : CalE l.prog w K mg base C_BadBits P_BadBits___init__ (spBad C_BadBits) := ⟨fBadBits___init__, _, haBadBits___init__, hefBadBits, ok_BadBits FBadBits___init__ ET_BadBits, bBadBits___init__⟩
  have cEKind : CalE l.prog w K mg base C_BadKind P_BadKind___init__ (spBad2 C_BadKind "one" "other") := ⟨fBadKind___init__, _, haBadKind___init__, hefBadKind, ok_BadKind FBadKind___init__ ET_BadKind, bBadKind___init__⟩
  have cEText : CalE l.prog w K mg base C_BadText P_BadText___init__ (spBad C_BadText) := ⟨fBadText___init__, _, haBadText___init__, hefBadText, ok_BadText FBadText___init__ ET_BadText, bBadText___init__⟩
  have cHText : CalEH l.prog w K mg base C_BadText P_BadText___init__ (spBad C_BadText) := ⟨fBadText___init__, _, haBadText___init__, hefBadText, okH_BadText FBadText___init__ ET_BadText, bBadText___init__⟩
  have cKind : CalK l.prog w K mg base C C_BadKind := ⟨fKind___init__, _, ⟨hmk, haKind___init__, hiKind___init__, hkc⟩, ok_KindX FKind___init__ KT ET_BadKind cis_integer cEKind, bKind___init__, PySem.W.mg_of X G haC⟩
  have cis_between : Cal l.prog w K mg base 2 "is_between" P_is_between spBtw := ⟨fis_between, _, ok_btw Fis_between cis_integer, bis_between, PySem.W.mg_of X G hais_between, hkis_between⟩
  have c_power_of_ten : Cal l.prog w K mg base 1 "_power_of_ten" P__power_of_ten (spPowN 10) := ⟨f_power_of_ten, _, ok_ten F_power_of_ten T, b_power_of_ten, PySem.W.mg_of X G ha_power_of_ten, hk_power_of_ten⟩
  have cread_integer : Cal l.prog w K mg base 1 "read_integer" P_read_integer spReadInt := ⟨fread_integer, _, ok_readint Fread_integer T TB, bread_integer, PySem.W.mg_of X G haread_integer, hkread_integer⟩
  have cKind_signed : CalC l.prog w K mg base (L2N.CX l.prog w) C 5 "signed" P_Kind_signed (spClsN C C_BadBits 56 sLo sHi) := ⟨pKind_signed, fKind_signed, _, ⟨hs1Kind_signed, ⟨_, hs2Kind_signed⟩, hs3Kind_signed⟩, ok_signed FKind_signed TB ET_BadBits cis_between cEBits cKind, bKind_signed⟩
  have cKind_unsigned : CalC l.prog w K mg base (L2N.CX l.prog w) C 5 "unsigned" P_Kind_unsigned (spClsN C C_BadBits 56 uLo uHi) := ⟨pKind_unsigned, fKind_unsigned, _, ⟨hs1Kind_unsigned, ⟨_, hs2Kind_unsigned⟩, hs3Kind_unsigned⟩, ok_unsigned FKind_unsigned TB ET_BadBits cis_between cEBits cKind, bKind_unsigned⟩
  have cKind_digits : CalC l.prog w K mg base (L2N.CX l.prog w) C 5 "digits" P_Kind_digits (spClsN C C_BadBits 17 uLo dHi) := ⟨pKind_digits, fKind_digits, _, ⟨hs1Kind_digits, ⟨_, hs2Kind_digits⟩, hs3Kind_digits⟩, ok_digits FKind_digits TB ET_BadBits cis_between cEBits cKind c_power_of_ten, bKind_digits⟩
  have cKind_read : CalC l.prog w K mg base (L2.CX l.prog w) C 6 "read" P_Kind_read (spRead C C_BadText) := ⟨pKind_read, fKind_read, _, ⟨hs1Kind_read, ⟨_, hs2Kind_read⟩, hs3Kind_read⟩, ok_read FKind_read T n_str ET_BadBits ET_BadKind ET_BadText (PySem.W.exm_ref he7BadBits he9BadBits he8BadBits hx11) (PySem.W.exm_ref he7BadKind he9BadKind he8BadKind hx12) (PySem.W.exm_ref he7BadBits he9BadBits he8BadBits hx21) (PySem.W.exm_ref he7BadKind he9BadKind he8BadKind hx22) CR cEText cHText cread_integer cKind cKind_signed cKind_unsigned cKind_digits, bKind_read⟩
  have cKind___eq__ : CalN l.prog w K mg base  C 1 "__eq__" P_Kind___eq__ (spCmp C eqB) := ⟨fKind___eq__, _, ⟨haKind___eq__, hiKind___eq__, hkKind___eq__⟩, ok_eq FKind___eq__ T KT KO gKind, bKind___eq__⟩
  have cKind___str__ : CalN l.prog w K mg base  C 1 "__str__" P_Kind___str__ (spStr C) := ⟨fKind___str__, _, ⟨haKind___str__, hiKind___str__, hkKind___str__⟩, ok_str FKind___str__ KT, bKind___str__⟩
  have c_law_take : Cal l.prog w K mg base 1 "_law_take" P__law_take spTake := ⟨f_law_take, _, ok_take F_law_take T, b_law_take, PySem.W.mg_of X G ha_law_take, hk_law_take⟩
  have c_law_of : Cal l.prog w K mg base 2 "_law_of" P__law_of spOf := ⟨f_law_of, _, ok_of F_law_of T c_law_take, b_law_of, PySem.W.mg_of X G ha_law_of, hk_law_of⟩
  have c_law_pot_of : Cal l.prog w K mg base 1 "_law_pot_of" P__law_pot_of (spPotOf K) := ⟨f_law_pot_of, _, ok_pot_of F_law_pot_of T, b_law_pot_of, PySem.W.mg_of X G ha_law_pot_of, hk_law_pot_of⟩
  have c_ofS : Cal l.prog w K mg base 2 "_law_of" P__law_of spOfS := ⟨f_law_of, _, ok_ofS F_law_of T c_law_take, b_law_of, PySem.W.mg_of X G ha_law_of, hk_law_of⟩
  have c_law_number : Cal l.prog w K mg base 1 "_law_number" P__law_number spNum := ⟨f_law_number, _, ok_number F_law_number T, b_law_number, PySem.W.mg_of X G ha_law_number, hk_law_number⟩
  have c_law_half : Cal l.prog w K mg base 1 "_law_half" P__law_half spHalf := ⟨f_law_half, _, ok_half F_law_half T, b_law_half, PySem.W.mg_of X G ha_law_half, hk_law_half⟩
  have c_law_ends : Cal l.prog w K mg base 2 "_law_ends" P__law_ends spEnds := ⟨f_law_ends, _, ok_ends F_law_ends T c_law_number c_law_half, b_law_ends, PySem.W.mg_of X G ha_law_ends, hk_law_ends⟩
  have c_law_text : Cal l.prog w K mg base 3 "_law_text" P__law_text spText := ⟨f_law_text, _, ok_text F_law_text T c_law_take c_law_of, b_law_text, PySem.W.mg_of X G ha_law_text, hk_law_text⟩
  have c_law_bent : Cal l.prog w K mg base 3 "_law_bent" P__law_bent spBent := ⟨f_law_bent, _, ok_bent F_law_bent T c_law_take c_ofS, b_law_bent, PySem.W.mg_of X G ha_law_bent, hk_law_bent⟩
  have c_law_heard : Cal l.prog w K mg base 7 "_law_heard" P__law_heard spHeard := ⟨f_law_heard, _, ok_heard F_law_heard T n_ve KT gKind CR g_WidthError ET_BadText cKind_read, b_law_heard, PySem.W.mg_of X G ha_law_heard, hk_law_heard⟩
  have c_law_right : CalG l.prog w K mg base 8 "_law_right" P__law_right (spRight 14) := ⟨f_law_right, _, ok_right F_law_right T n_str KT KO CR c_law_of c_law_text c_law_bent c_law_ends c_law_heard cKind cKind_read cKind___eq__ cKind___str__, b_law_right, PySem.W.mg_of X G ha_law_right, hk_law_right⟩
  exact ok_law Flaw T c_law_pot_of c_law_right
end Zg

open PySem PySem.W PyProof.Rows in
set_option maxRecDepth 100000 in
set_option maxHeartbeats 0 in
theorem PySem.Challenge.cw_widerkeys_k04_texts_of_kinds_holds : PySem.Challenge.rw_widerkeys_k04_texts_of_kinds.Holds := by
  w_on; o_law; k_head; (case hw => w_witness2)
  k_fill
  refine Zg.walkG (l := PySem.Challenge.rw_widerkeys_k04_texts_of_kinds) (sp := Zg.spLaw) (x := "_law_script") (k := 9) rfl (by decide) rfl ⟨rfl, by decide, by decide⟩ (fun w h Y => PySem.W.kIn_of Y) ?F (fun K H a ns hl hS => ⟨a, ns, rfl, hS, hl, fun _ => rfl⟩)
  case F =>
    intro w mg fa h KX G hmg
    refine' Zg.all_mk KX G hmg ?haC ?hpg ?hhd ?hpo ?hsa ?hmk ?hkc ?hnlow ?hnhigh ?hnsize ?heStr ?heW0 ?heW1 ?heW2 ?heW3 ?heW4 ?heW5 ?heW6 ?he0BadBits ?he1BadBits ?he2BadBits ?he3BadBits ?he4BadBits ?he6BadBits ?he7BadBits ?he8BadBits ?he9BadBits ?heaBadBits ?hebBadBits ?hedBadBits ?heeBadBits ?hevBadBitsvalue ?he0BadKind ?he1BadKind ?he2BadKind ?he3BadKind ?he4BadKind ?he6BadKind ?he7BadKind ?he8BadKind ?he9BadKind ?heaBadKind ?hebBadKind ?hedBadKind ?heeBadKind ?hevBadKindone ?hevBadKindother ?he0BadText ?he1BadText ?he2BadText ?he3BadText ?he4BadText ?he6BadText ?he7BadText ?he8BadText ?he9BadText ?heaBadText ?hebBadText ?hedBadText ?heeBadText ?hevBadTextvalue ?hrd ?hga ?hgB ?hgD ?hgF ?hx11 ?hx12 ?hx21 ?hx22 ?heO1 ?heO4 ?heO5 ?heO6 ?haBadBits___init__ ?hiBadBits___init__ ?hlBadBits___init__ ?hcBadBits___init__ ?hkBadBits___init__ ?haBadKind___init__ ?hiBadKind___init__ ?hlBadKind___init__ ?hcBadKind___init__ ?hkBadKind___init__ ?haBadText___init__ ?hiBadText___init__ ?hlBadText___init__ ?hcBadText___init__ ?hkBadText___init__ ?hais_integer ?hlis_integer ?hcis_integer ?hkis_integer ?hais_between ?hlis_between ?hcis_between ?hkis_between ?haread_integer ?hlread_integer ?hcread_integer ?hkread_integer ?haKind___init__ ?hiKind___init__ ?hlKind___init__ ?hcKind___init__ ?hkKind___init__ ?hs1Kind_signed ?hs2Kind_signed ?hs3Kind_signed ?hlKind_signed ?hcKind_signed ?hkKind_signed ?hs1Kind_unsigned ?hs2Kind_unsigned ?hs3Kind_unsigned ?hlKind_unsigned ?hcKind_unsigned ?hkKind_unsigned ?hs1Kind_digits ?hs2Kind_digits ?hs3Kind_digits ?hlKind_digits ?hcKind_digits ?hkKind_digits ?hs1Kind_read ?hs2Kind_read ?hs3Kind_read ?hlKind_read ?hcKind_read ?hkKind_read ?haKind___eq__ ?hiKind___eq__ ?hlKind___eq__ ?hcKind___eq__ ?hkKind___eq__ ?haKind___str__ ?hiKind___str__ ?hlKind___str__ ?hcKind___str__ ?hkKind___str__ ?ha_power_of_ten ?hl_power_of_ten ?hc_power_of_ten ?hk_power_of_ten ?ha_law_pot_of ?hl_law_pot_of ?hc_law_pot_of ?hk_law_pot_of ?ha_law_take ?hl_law_take ?hc_law_take ?hk_law_take ?ha_law_of ?hl_law_of ?hc_law_of ?hk_law_of ?ha_law_number ?hl_law_number ?hc_law_number ?hk_law_number ?ha_law_ends ?hl_law_ends ?hc_law_ends ?hk_law_ends ?ha_law_half ?hl_law_half ?hc_law_half ?hk_law_half ?ha_law_text ?hl_law_text ?hc_law_text ?hk_law_text ?ha_law_bent ?hl_law_bent ?hc_law_bent ?hk_law_bent ?ha_law_heard ?hl_law_heard ?hc_law_heard ?hk_law_heard ?ha_law_right ?hl_law_right ?hc_law_right ?hk_law_right ?halaw ?hllaw ?hclaw ?hklaw ?hefBadBits ?hefBadKind ?hefBadText ?hzint ?hzlen ?hzabs ?hzbool ?hztuple ?hzisinstance ?hzrange ?hzmax ?hzmin ?hzall ?hzrepr
    (case haC => k_is)
    (case hpg => k_is)
    (case hhd => k_is)
    (case hpo => k_is)
    (case hsa => k_is)
    (case hmk => k_is)
    (case hkc => k_is)
    (case hnlow => k_is)
    (case hnhigh => k_is)
    (case hnsize => k_is)
    (case heStr => k_is)
    (case heW0 => k_is)
    (case heW1 => k_is)
    (case heW2 => k_is)
    (case heW3 => k_is)
    (case heW4 => k_is)
    (case heW5 => k_is)
    (case heW6 => k_is)
    (case he0BadBits => k_is)
    (case he1BadBits => k_is)
    (case he2BadBits => k_is)
    (case he3BadBits => k_is)
    (case he4BadBits => k_is)
    (case he6BadBits => k_is)
    (case he7BadBits => k_is)
    (case he8BadBits => k_is)
    (case he9BadBits => k_is)
    (case heaBadBits => k_is)
    (case hebBadBits => k_is)
    (case hedBadBits => k_is)
    (case heeBadBits => k_is)
    (case hevBadBitsvalue => k_is)
    (case he0BadKind => k_is)
    (case he1BadKind => k_is)
    (case he2BadKind => k_is)
    (case he3BadKind => k_is)
    (case he4BadKind => k_is)
    (case he6BadKind => k_is)
    (case he7BadKind => k_is)
    (case he8BadKind => k_is)
    (case he9BadKind => k_is)
    (case heaBadKind => k_is)
    (case hebBadKind => k_is)
    (case hedBadKind => k_is)
    (case heeBadKind => k_is)
    (case hevBadKindone => k_is)
    (case hevBadKindother => k_is)
    (case he0BadText => k_is)
    (case he1BadText => k_is)
    (case he2BadText => k_is)
    (case he3BadText => k_is)
    (case he4BadText => k_is)
    (case he6BadText => k_is)
    (case he7BadText => k_is)
    (case he8BadText => k_is)
    (case he9BadText => k_is)
    (case heaBadText => k_is)
    (case hebBadText => k_is)
    (case hedBadText => k_is)
    (case heeBadText => k_is)
    (case hevBadTextvalue => k_is)
    (case hrd => k_is)
    (case hga => k_is)
    (case hgB => k_is)
    (case hgD => k_is)
    (case hgF => k_is)
    (case hx11 => k_is)
    (case hx12 => k_is)
    (case hx21 => k_is)
    (case hx22 => k_is)
    (case heO1 => k_is)
    (case heO4 => k_is)
    (case heO5 => k_is)
    (case heO6 => k_is)
    (case haBadBits___init__ => k_is)
    (case hiBadBits___init__ => k_is)
    (case hlBadBits___init__ => k_is)
    (case hcBadBits___init__ => k_is)
    (case hkBadBits___init__ => k_is)
    (case haBadKind___init__ => k_is)
    (case hiBadKind___init__ => k_is)
    (case hlBadKind___init__ => k_is)
    (case hcBadKind___init__ => k_is)
    (case hkBadKind___init__ => k_is)
    (case haBadText___init__ => k_is)
    (case hiBadText___init__ => k_is)
    (case hlBadText___init__ => k_is)
    (case hcBadText___init__ => k_is)
    (case hkBadText___init__ => k_is)
    (case hais_integer => k_is)
    (case hlis_integer => k_is)
    (case hcis_integer => k_is)
    (case hkis_integer => k_is)
    (case hais_between => k_is)
    (case hlis_between => k_is)
    (case hcis_between => k_is)
    (case hkis_between => k_is)
    (case haread_integer => k_is)
    (case hlread_integer => k_is)
    (case hcread_integer => k_is)
    (case hkread_integer => k_is)
    (case haKind___init__ => k_is)
    (case hiKind___init__ => k_is)
    (case hlKind___init__ => k_is)
    (case hcKind___init__ => k_is)
    (case hkKind___init__ => k_is)
    (case hs1Kind_signed => k_is)
    (case hs2Kind_signed => k_is)
    (case hs3Kind_signed => k_is)
    (case hlKind_signed => k_is)
    (case hcKind_signed => k_is)
    (case hkKind_signed => k_is)
    (case hs1Kind_unsigned => k_is)
    (case hs2Kind_unsigned => k_is)
    (case hs3Kind_unsigned => k_is)
    (case hlKind_unsigned => k_is)
    (case hcKind_unsigned => k_is)
    (case hkKind_unsigned => k_is)
    (case hs1Kind_digits => k_is)
    (case hs2Kind_digits => k_is)
    (case hs3Kind_digits => k_is)
    (case hlKind_digits => k_is)
    (case hcKind_digits => k_is)
    (case hkKind_digits => k_is)
    (case hs1Kind_read => k_is)
    (case hs2Kind_read => k_is)
    (case hs3Kind_read => k_is)
    (case hlKind_read => k_is)
    (case hcKind_read => k_is)
    (case hkKind_read => k_is)
    (case haKind___eq__ => k_is)
    (case hiKind___eq__ => k_is)
    (case hlKind___eq__ => k_is)
    (case hcKind___eq__ => k_is)
    (case hkKind___eq__ => k_is)
    (case haKind___str__ => k_is)
    (case hiKind___str__ => k_is)
    (case hlKind___str__ => k_is)
    (case hcKind___str__ => k_is)
    (case hkKind___str__ => k_is)
    (case ha_power_of_ten => k_is)
    (case hl_power_of_ten => k_is)
    (case hc_power_of_ten => k_is)
    (case hk_power_of_ten => k_is)
    (case ha_law_pot_of => k_is)
    (case hl_law_pot_of => k_is)
    (case hc_law_pot_of => k_is)
    (case hk_law_pot_of => k_is)
    (case ha_law_take => k_is)
    (case hl_law_take => k_is)
    (case hc_law_take => k_is)
    (case hk_law_take => k_is)
    (case ha_law_of => k_is)
    (case hl_law_of => k_is)
    (case hc_law_of => k_is)
    (case hk_law_of => k_is)
    (case ha_law_number => k_is)
    (case hl_law_number => k_is)
    (case hc_law_number => k_is)
    (case hk_law_number => k_is)
    (case ha_law_ends => k_is)
    (case hl_law_ends => k_is)
    (case hc_law_ends => k_is)
    (case hk_law_ends => k_is)
    (case ha_law_half => k_is)
    (case hl_law_half => k_is)
    (case hc_law_half => k_is)
    (case hk_law_half => k_is)
    (case ha_law_text => k_is)
    (case hl_law_text => k_is)
    (case hc_law_text => k_is)
    (case hk_law_text => k_is)
    (case ha_law_bent => k_is)
    (case hl_law_bent => k_is)
    (case hc_law_bent => k_is)
    (case hk_law_bent => k_is)
    (case ha_law_heard => k_is)
    (case hl_law_heard => k_is)
    (case hc_law_heard => k_is)
    (case hk_law_heard => k_is)
    (case ha_law_right => k_is)
    (case hl_law_right => k_is)
    (case hc_law_right => k_is)
    (case hk_law_right => k_is)
    (case halaw => k_is)
    (case hllaw => k_is)
    (case hclaw => k_is)
    (case hklaw => k_is)
    (case hefBadBits => k_is)
    (case hefBadKind => k_is)
    (case hefBadText => k_is)
    (case hzint => k_is)
    (case hzlen => k_is)
    (case hzabs => k_is)
    (case hzbool => k_is)
    (case hztuple => k_is)
    (case hzisinstance => k_is)
    (case hzrange => k_is)
    (case hzmax => k_is)
    (case hzmin => k_is)
    (case hzall => k_is)
    (case hzrepr => k_is)
#print axioms PySem.Challenge.cw_widerkeys_k04_texts_of_kinds_holds
