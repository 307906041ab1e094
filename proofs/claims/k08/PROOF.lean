import PyProof.Rows.All
import Wide.All
import OpenK.AllK
import Wide.FinOn
import PyProof.ReprRoads
import PyProof.ReprLen
import PyProof.FitsInt
import Flt.Len
import HandS.ForMost
import HandS.Wide
import HandS.IsInst
import HandS.ForExc
import HandS.ExcField
import HandS.ExcInit
import HandS.Dict
import HandS.More
import HandS.SlotsOwn
import PyProof.InstNe
import KE.KExcIs
import HandS.ExcIs
import HandS.FStr
import HandS.IsInst
import HandS.Codes
import KE.KCallOwn
import KE.KNestM
import HandS.Lambda
import HandS.Style
import PySem.Challenge.RW_widerkeys_k08_what_is_no_span
set_option Elab.async false
set_option linter.all false
set_option maxRecDepth 100000
set_option maxHeartbeats 4000000

namespace Zg
open PySem PySem.Spec PyProof.Rows L2

/-! ### powers -/
def CPowZ (i j : Int) : Prop := 0 ≤ j ∧ (Builtin.Int.intBits i : Int) * j ≤ 2 ^ 27
theorem op_powZ {X : Cx} : OpR X (binaryOp .Pow) (rI CPowZ fun i j => .int (i ^ j.toNat)) :=
  opI fun _ _ _ _ _ _ _ hc q => pow_int hc.1 hc.2 q

/-! ### no repr runs around -/
/-- no repr runs around -/
def Calm (A : Around) : Prop := A.guards = some []
theorem Calm.deeper {A : Around} {env : Env} (h : Calm A) : Calm (A.deeper env) := h

/-- repr(x), x data at any depth -/
def rReprD (K : PySem.W.Frag) : List V → Hp → VK → Prop := fun xs H Q =>
  ∃ (x : V) (d : PyData), xs = [x] ∧ Dp K H x d ∧ d.showable = true ∧ d.hasDict = false ∧
    d.depth ≤ 64 ∧ d.shown.length ≤ sizeLine ∧ (∀ i, x = .int i → i.natAbs.log2 < 1920) ∧ Q (.str d.shown) H
theorem call_reprD {X : Cx} (hg : Calm X.A) (hu : X.A.units + 70 < cLine) : CallR X (.builtin "repr") (rReprD X.K) := by
  intro pins s σ H xs us Q I r h
  obtain ⟨x, d, rfl, hd, hs, hn, hdep, hsz, hi, q⟩ := h
  obtain ⟨u, rfl, rx⟩ := vals1 r
  obtain ⟨as, rd⟩ := Dp.reads I d x u hd rx
  have nod : d.hasDict = true → sysModules ∉ as := fun z => by rw [hn] at z; cases z
  cases hd with
  | non =>
    cases rx
    exact PySem.P.repr_of_none ⟨.str _, H, I.tok _, ⟨_, rfl⟩, q⟩
  | bl b =>
    cases rx
    refine PySem.P.repr_of_bool ⟨.str _, H, I.tok _, ⟨_, rfl⟩, ?_⟩
    cases b <;> exact q
  | int i =>
    obtain ⟨t, rfl⟩ := rx
    exact PySem.P.repr_of_int (hi i rfl) ⟨.str _, H, I.tok _, ⟨_, rfl⟩, q⟩
  | str z =>
    obtain ⟨t, rfl⟩ := rx
    exact PySem.P.repr_of_str ⟨.str _, H, I.tok _, ⟨_, rfl⟩, q⟩ hsz
  | lst h1 h2 =>
    cases rx
    refine repr_of_reads' rd hs nod hg (by omega) (fun _ _ e => e) (fun h' u tk hk => ?_) hsz
    exact ⟨.str _, H, I.kept (t' := tk) hk, ⟨_, rfl⟩, q⟩
  | tup h1 h2 =>
    cases rx
    refine repr_of_reads' rd hs nod hg (by omega) (fun _ _ e => e) (fun h' u tk hk => ?_) hsz
    exact ⟨.str _, H, I.kept (t' := tk) hk, ⟨_, rfl⟩, q⟩

/-! ### defs that are called where no repr runs -/
section
variable {P : Program} {w : World} {K : PySem.W.Frag} {mg : Str → Option Value} {base : Heap} {CX : CXT} {k : Nat} {f : Addr} {fd : FuncData} {ps : List Str} {sp : Sp}
/-- a def keeps its promise wherever it is called with no repr around -/
structure FnG (P : Program) (w : World) (K : PySem.W.Frag) (mg : Str → Option Value) (base : Heap) (CX : CXT)
    (k : Nat) (f : Addr) (fd : FuncData) (ps : List Str) (sp : Sp) : Prop where
  many : ∀ vs H Q E, sp vs H Q E → vs.length = ps.length
  goes : ∀ (A : Around), Calm A → ∀ (fr : List Env) (s : Shared) (H : Hp) (args : Args) (us : List Value) (vs : List V) (Q : VK) (E : XK),
    Room k A → Env0 P w K mg base A fr s H → BindsTo s fd args (ps.zip us) → Vals vs us → sp vs H Q E →
      codeAny (model P w) A (.call (.ref f) args) (CR CX fr P w H s Q E) s
theorem FnG.of (F : FnOk P w K mg base CX k f fd ps sp) : FnG P w K mg base CX k f fd ps sp :=
  ⟨F.len, fun A _ fr s H args us vs Q E r e b v h => F.run A fr s H args us vs Q E r e b v h⟩
theorem FnG.up {j : Nat} (F : FnG P w K mg base CX j f fd ps sp) (h : j ≤ k) : FnG P w K mg base CX k f fd ps sp :=
  ⟨F.many, fun A c fr s H args us vs Q E r => F.goes A c fr s H args us vs Q E (r.mono h)⟩

/-- a def of the text, by its body, with no repr around -/
theorem Fun_okG {x qual : Str} {st : Stmt} {N : List Str} (F : Fun K x qual st f fd) (S : FnScope N ps (defScope st)) (len : ∀ vs H Q E, sp vs H Q E → vs.length = ps.length)
    (hbody : ∀ (cd : Value) (A : Around) (fr : List Env) (s : Shared) (H : Hp) (vs : List V) (Q : VK) (E : XK), Calm A →
      Room k (A.deeper (envOfC qual (defScope st) s.heap.objs.size f cd)) → sp vs H Q E →
        ∃ t, PSs (cxOf CX P w K mg base N qual (defScope st) f cd A fr s H E).nox (defBody st) t ∧ t { nx := fun _ H' => Q .non H', rt := Q } (start N vs) H) :
    FnG P w K mg base CX (k + 1) f fd ps sp := by
  obtain ⟨oc, od, kw, doc, pm, an, cd, ct, osl, rfl, at_f, hcd⟩ := F.ex
  constructor
  · exact len
  intro A calm fr s H args us vs Q E room e0 binds rel hsp
  have hlen := len _ _ _ _ hsp
  have stays : ∀ b o, base.get? b = some o → s.heap.get? b = some o := fun b o e => (e0.bs b o e).1
  refine codeAny_call_function room.depth (e0.mod.kin.keeps stays _ _ at_f) rfl S.co S.gen rfl (PySem.W.codeRec_of (e0.mod.kin.keeps stays) hcd) (binds _ _ _ _ ?_)
  refine wpAny_newFunctionEnv_cells S.kind (fun ⟨n, v⟩ hy => ?_) fun env he s1 inC => ?_
  · cases S.par n (List.of_mem_zip hy).1 with
    | inl z => exact .inl z
    | inr z => exact .inr ⟨z, PySem.W.cellsFrom_some _ _ _ (.inl z)⟩
  subst he
  refine ⟨(e0.mod.nolimit.keeps stays).keeps inC.toInCall.keep, codeAny_func ?_⟩
  obtain ⟨t, ht, hq⟩ := hbody cd A fr s H vs Q E calm (room.deeper _) hsp
  refine wpAny_mono (ht.nox.run [] s1 (start N vs) H _ (inv_start (CX := CX) S room.hd e0 hlen rel inC) hq) (fun fl s' z => ?_) fun _ _ z => z
  match fl, z with
  | .ret _, ⟨v, _, H', J, rv, q⟩ => exact ⟨v, H', J.os, J.bare, J.base, J.hok, rv, q⟩
  | .next, ⟨_, H', J, q⟩ => exact ⟨.non, H', J.os, J.bare, J.base, J.hok, rfl, q⟩
  | .brk, ⟨_, _, _, q⟩ => exact q.elim
  | .cont, ⟨_, _, _, q⟩ => exact q.elim
end

section
variable {X : Cx} {CX : CXT} {k : Nat} {f : Addr} {fd : FuncData} {ps : List Str} {sp : Sp} {E : XK} {x : Str} {p pos : Pos} {e : Expr} {es : List Expr} {t : TA}
/-- f(e, ..) where no repr runs -/
theorem pe_callG (c : Calm X.A) (F : FnG X.prog X.w X.K X.mg X.base CX k f fd ps sp) (hr : Room k X.A) (hg : Gl X x) (hm : X.mg x = some (.ref f)) (hk : PySem.W.keepIn X.K (.ref f) = true)
    (hb : Binds X.K fd ps []) (hx : Passes CX X E) (ha : PA X (e :: es) t) (hdb : (x == ("__debug__" : Str)) = false := by decide)
    (he : starEach (e :: es) X.env = (false, eval e X.env) :: starEach es X.env := by rfl) (hpl : (backTo pos (starEach es X.env)).any (·.1) = false := by rfl) :
    PE X (.Call (.Name x p) (e :: es) [] pos) (tCall sp [] E t) := by
  constructor
  intro pins s σ H Q I h
  refine wpAny_Call_Name_kw (ld_glob I hg hm (PySem.W.callWith_K (h₀ := X.base) I.ok.mod.kin hk (thn (ha.run pos pins s σ H _ I h) fun us s1 z => ?_) he hpl) hdb)
  obtain ⟨vs, H1, J, rel, q⟩ := z
  have q' : sp vs H1 Q E := by rw [← List.append_nil vs]; exact q
  have hl : (us ++ []).length = ps.length := by rw [List.append_nil, ← rel.length]; exact F.many _ _ _ _ q'
  have b := hb s1 us J.kIn hl
  rw [List.append_nil] at b
  refine ⟨J.kIn, wpAny_call (codeAny_mono (F.goes X.A c X.stack s1 H1 ⟨us, []⟩ us vs Q E hr J.env0 b rel q') fun r s2 z => ?_)⟩
  match r, z with
  | .error _, z => exact hx pins σ H1 s1 _ s2 J z
  | .ok (.ret _), z => exact J.after z
  | .ok .next, z => exact z.elim
  | .ok .brk, z => exact z.elim
  | .ok .cont, z => exact z.elim
end

/-! ### the law's own call -/
/-- the script alone is tracked, or nothing -/
def track (a : Addr) (o : HO) : Hp := fun b => if b = a then some o else none
theorem track_at {a : Addr} {o : HO} : track a o a = some o := if_pos rfl
theorem track_off {a b : Addr} {o : HO} (h : b ≠ a) : track a o b = none := if_neg h

theorem lawG {P : Program} {w : World} {K : PySem.W.Frag} {mg mb : Str → Option Value} {k : Nat} {fa a : Addr} {fd : FuncData} {x : Str} {sp : Sp} {s : Shared} {us : List Value} {ns : List Int}
    (kin : K.In s.heap) (gl : s.heap.Ns mainGlobals mg) (bl : s.heap.Ns builtinsNs mb) (bb : ∀ x : Str, x ≠ "__name__" → mb x = bootBuiltins x) (lim : s.heap.NoLimit) (gens : s.gens = #[])
    (ha : s.heap.get? a = some { cls := .type "list", data := .seq us.toArray }) (whole : IntsAre us ns) (line : ns.length ≤ sizeLine) (room : Room k callerA)
    (F : ∀ base : Heap, K.In base → base.Ns mainGlobals mg → FnG P w K mg base CX0 k fa fd [x] sp)
    (bind : ∀ (s : Shared) (u : Value), BindsTo s fd ⟨[u], []⟩ [(x, u)])
    (hsp : ∀ H : Hp, SqL K H a (ns.map V.int) → sp [.ref a] H (fun v _ => v = .bl true) fun _ _ _ => False) :
    codeAny (model P w) callerA (.call (.ref fa) ⟨[.ref a], []⟩) (fun r s' => r = .ok (.ret (.bool true)) ∧ OldK s.heap s'.heap ∧ s'.os = s.os ∧ AllBare s'.gens) s := by
  have rel := vals_ints whole
  have size := whole.length
  -- H: the script, or nothing; what H does not track is in the base
  have go : ∀ H : Hp, SqL K H a (ns.map V.int) → HOk P w H s.heap → (∀ b u, H b = some u → b = a ∧ K.lookup a = none ∧ ∃ o xs, u = .frz o (.lst xs)) →
      codeAny (model P w) callerA (.call (.ref fa) ⟨[.ref a], []⟩) (fun r s' => r = .ok (.ret (.bool true)) ∧ OldK s.heap s'.heap ∧ s'.os = s.os ∧ AllBare s'.gens) s := by
    intro H hS hok only
    have free : ∀ {b : Addr}, b ≠ a → H b = none := fun {b} hb => by
      cases q : H b with
      | none => rfl
      | some u => exact absurd (only b u q).1 hb
    have notDict : ∀ {b : Addr} {o : Obj} {es : Array DictEntry} {n : Nat}, s.heap.get? b = some o → o.data = .dict es n → b ≠ a := fun {b o es n} e d z => by
      subst z
      rw [ha] at e
      have e' := Option.some.inj e
      subst e'
      cases d
    have keepNs : ∀ {b : Addr} {m : Str → Option Value}, s.heap.Ns b m → (hidT s.heap H).Ns b m := fun {b m} z => by
      obtain ⟨o, es, n, e, d, r⟩ := z
      exact ⟨o, es, n, hidT_get e (free (notDict e d)), d, r⟩
    have kinB : K.In (hidT s.heap H) := fun b o e => hidT_get (kin b o e) (by
      cases q : H b with
      | none => rfl
      | some u =>
        obtain ⟨z, no, _⟩ := only b u q
        rw [z, no] at e
        cases e)
    have limB : (hidT s.heap H).NoLimit := by
      obtain ⟨m, h1, h2⟩ := lim
      exact ⟨m, keepNs h1, h2⟩
    have e0 : Env0 P w K mg (hidT s.heap H) callerA [] s H :=
      { frames := rfl, mod := ⟨kinB, keepNs gl, ⟨mb, keepNs bl, bb⟩, limB⟩, bs := fun b o e => of_hidT e, bsz := Nat.le_of_eq (hidT_size _ _), funs := trivial,
        frf := fun b hb => (List.not_mem_nil (show b ∈ ([] : List Addr) from hb)).elim, hok := hok, bare := .of_eq gens }
    refine codeAny_mono ((F _ kinB (keepNs gl)).goes callerA rfl [] s H ⟨[.ref a], []⟩ [.ref a] [.ref a] _ _ room e0 (bind s (.ref a)) (.cons rfl .nil) (hsp H hS)) fun r s' z => ?_
    match r, z with
    | .error _, z => exact False.elim z
    | .ok .next, z => exact False.elim z
    | .ok .brk, z => exact False.elim z
    | .ok .cont, z => exact False.elim z
    | .ok (.ret u), z =>
      obtain ⟨v, H', os, bare, un, hok', rv, q⟩ := z
      have q' : v = .bl true := q
      subst q'
      obtain rfl : u = Value.bool true := rv
      refine ⟨rfl, OldK.of_keep fun b o e => ?_, os, bare⟩
      cases q : H b with
      | none => exact un.keep b o e q (List.not_mem_nil) (List.not_mem_nil)
      | some u =>
        obtain ⟨_, _, ob, xs, eu⟩ := only b u q
        subst eu
        have h1 := (hok b _ q).1
        have h2 := (hok' b _ (un.frzs b ob _ q)).1
        rw [e] at h1
        rw [h2, ← Option.some.inj h1]
  cases hk : K.lookup a with
  | none =>
    refine go (track a (.frz { cls := .type "list", data := .seq us.toArray } (.lst (ns.map V.int)))) (.inl (.inr ⟨_, track_at⟩)) (fun b u z => ?_) fun b u z => ?_
    · by_cases hb : b = a
      · subst hb
        have z' := track_at.symm.trans z
        cases z'
        exact ⟨ha, by rw [List.length_map]; exact line, us, _, rel, ha⟩
      · rw [track_off hb] at z
        cases z
    · by_cases hb : b = a
      · subst hb
        have z' := track_at.symm.trans z
        cases z'
        exact ⟨rfl, hk, _, _, rfl⟩
      · rw [track_off hb] at z
        cases z
  | some o =>
    have e := kin a o hk
    rw [ha] at e
    have e' := Option.some.inj e
    subst e'
    have small : us.toArray.size ≤ sizeLine := by rw [List.size_toArray, size]; exact line
    refine go (fun _ => none) (.inr ⟨_, us.toArray, _, hk, rfl, rfl, rfl, small, by simpa using rel⟩) (fun b u z => ?_) fun b u z => ?_
    · have z' : (none : Option HO) = some u := z
      cases z'
    · have z' : (none : Option HO) = some u := z
      cases z'

/-- what k_head leaves, from the law's promise -/
theorem walkG {l : PySem.W.OpenLaw} {n k : Nat} {q : Program} {loose : List Str} {XP : (Str → Option Value) → Heap → Prop} {YP : World → Heap → Prop} {d : DefRec} {K : Params → PySem.W.Frag} {sp : PySem.W.Frag → Sp} {x : Str}
    (most : l.most = some n) (line : n ≤ sizeLine) (nodef : d.params.defaults = []) (room : Room k callerA) (hY : ∀ (w : World) (h : Heap), YP w h → (K w.params).In h)
    (F : ∀ (w : World) (mg : Str → Option Value) (fa : Addr) (h : Heap), (K w.params).In h → h.Ns mainGlobals mg → mg d.name = some (.ref fa) →
      ∃ fd : FuncData, (∀ (s : Shared) (u : Value), BindsTo s fd ⟨[u], []⟩ [(x, u)]) ∧
        ∀ base : Heap, (K w.params).In base → base.Ns mainGlobals mg → FnG l.prog w (K w.params) mg base CX0 k fa fd [x] (sp (K w.params)))
    (hsp : ∀ (K : PySem.W.Frag) (H : Hp) (a : Addr) (ns : List Int), ns.length ≤ n → SqL K H a (ns.map V.int) → sp K [.ref a] H (fun v _ => v = .bl true) fun _ _ _ => False) :
    PySem.W.WalkO q loose XP YP l.row.toRowW d [] (fun f vs => PySem.call f vs) := by
  refine Att.attach_call most nodef fun w s0 s1 mg mb fa o pm cd doc a vs ns G Y _ _ _ named obj whole few gens => ?_
  have kin := hY w _ Y
  obtain ⟨fd, bind, all⟩ := F w mg fa _ kin G.T.g named
  exact lawG kin G.T.g G.T.b G.T.builtins G.T.nolimit gens obj whole (Nat.le_trans few line) room all bind fun H hS => hsp _ H a ns few hS
section
variable {K : PySem.W.Frag} {σ : L2.St} {H : Hp} {Q : VK} {D : Ends} {v x y : V} {i j : Int} {p q : Addr} {xs : List V} {ta tb tc te : TE} {tt tu : TT} {ts tr : TS}
theorem nn {H : Hp} {a b : Addr} {o : HO} (h' : H b = none) (h : H a = some o) : a ≠ b := ne_of_none h h'
theorem nn' {H : Hp} {a b : Addr} {o : HO} (h' : H b = none) (h : H a = some o) : b ≠ a := (ne_of_none h h').symm
theorem rd_var {n : Nat} (h : σ[n]? = some (some v)) (k : Q v H) : tVar n σ H Q := ⟨v, h, k⟩
theorem rd_c (k : Q v H) : tC v σ H Q := k
theorem rd_op {r : R2} (k : ta σ H fun x H1 => tb σ H1 fun y H2 => r x y H2 Q) : tOp r ta tb σ H Q := k
theorem rd_un {r : V → Hp → VK → Prop} (k : ta σ H fun x H1 => r x H1 Q) : tUn r ta σ H Q := k
theorem rd_I0 {g : Int → Int → V} (k : Q (g i j) H) : rI0 g (.int i) (.int j) H Q := ⟨i, j, rfl, rfl, k⟩
theorem rd_I {C : Int → Int → Prop} {g : Int → Int → V} (c : C i j) (k : Q (g i j) H) : rI C g (.int i) (.int j) H Q := ⟨i, j, rfl, rfl, c, k⟩
theorem rd_U {g : Int → V} (k : Q (g i) H) : rU g (.int i) H Q := ⟨i, rfl, k⟩
theorem rd_eq (s : scal x y = true) (k : Q (.bl (decide (x = y))) H) : rEq x y H Q := ⟨s, k⟩
theorem rd_ne (s : scal x y = true) (k : Q (.bl (!decide (x = y))) H) : rNe x y H Q := ⟨s, k⟩
theorem rd_ixL (h : H p = some (.lst xs)) (e : atI xs i = some v) (k : Q v H) : rIxL K (.ref p) (.int i) H Q := ⟨p, xs, i, v, rfl, rfl, SqL.of h, e, k⟩
theorem rd_ixLs (h : SqL K H p xs) (e : atI xs i = some v) (k : Q v H) : rIxL K (.ref p) (.int i) H Q := ⟨p, xs, i, v, rfl, rfl, h, e, k⟩
theorem rd_ixT (h : H p = some (.tup xs)) (e : atI xs i = some v) (k : Q v H) : rIxT K (.ref p) (.int i) H Q := ⟨p, xs, i, v, rfl, rfl, SqT.of h, e, k⟩
theorem rd_setL {z : V} {n : Nat} {R : Hp → Prop} (h : H p = some (.lst xs)) (e : ixN xs.length i = some n) (k : R (upd H p (.lst (xs.set n z)))) : rSetL (.ref p) (.int i) z H R := ⟨p, xs, i, n, rfl, rfl, h, e, k⟩
theorem rd_sub {to ti : TE} {t : TSet} {R : L2.St → Hp → Prop} (k : to σ H fun o H1 => ti σ H1 fun i H2 => t o i v H2 fun H3 => R σ H3) : gSub to ti t v σ H R := k
theorem rd_test {R : Bool → Hp → Prop} (k : ta σ H fun x H' => ∃ b, x = .bl b ∧ R b H') : tTest ta σ H R := k
theorem rd_tB {R : Bool → Hp → Prop} (k : ta σ H fun x H' => ∃ b, x = .bl b ∧ R b H') : tB ta σ H R := k
theorem rd_bl {b : Bool} {R : Bool → Prop} (k : R b) : ∃ c, V.bl b = .bl c ∧ R c := ⟨b, rfl, k⟩
theorem rd_chain {r r' : R2} (k : ta σ H fun x H1 => tb σ H1 fun y H2 => r x y H2 fun z H3 => ∃ b, z = .bl b ∧ if b = true then tc σ H3 fun u H4 => r' y u H4 Q else Q (.bl false) H3) : tChain r r' ta tb tc σ H Q := k
theorem rd_and {R : Bool → Hp → Prop} (k : tt σ H fun c H1 => if c = true then tu σ H1 R else R false H1) : tAnd tt tu σ H R := k
theorem rd_or {R : Bool → Hp → Prop} (k : tt σ H fun c H1 => if c = true then R true H1 else tu σ H1 R) : tOr tt tu σ H R := k
theorem rd_not {R : Bool → Hp → Prop} (k : tt σ H fun c H1 => R (!c) H1) : tNot tt σ H R := k
theorem rd_andV (k : ta σ H fun x H1 => ∃ c, x = .bl c ∧ if c = true then tb σ H1 Q else Q (.bl false) H1) : tAndV ta tb σ H Q := k
theorem rd_orV (k : ta σ H fun x H1 => ∃ c, x = .bl c ∧ if c = true then Q (.bl true) H1 else tb σ H1 Q) : tOrV ta tb σ H Q := k
theorem rd_notV (k : ta σ H fun x H1 => ∃ c, x = .bl c ∧ Q (.bl (!c)) H1) : tNotV ta σ H Q := k
theorem rd_if (k : tt σ H fun c H1 => if c = true then ta σ H1 Q else tb σ H1 Q) : tIf tt ta tb σ H Q := k
theorem rd_ifS (k : tt σ H fun b H1 => if b = true then ts D σ H1 else tr D σ H1) : tIfS tt ts tr D σ H := k
theorem rd_seq (k : ts { D with nx := tr D } σ H) : tSeq ts tr D σ H := k
theorem rd_next (k : D.nx σ H) : tNext D σ H := k
theorem rd_asg {g : TG} (k : te σ H fun x H1 => g x σ H1 D.nx) : tAsg te g D σ H := k
theorem rd_name {n : Nat} {R : L2.St → Hp → Prop} (k : R (σ.set n (some v)) H) : gName n v σ H R := k
theorem rd_gnil {R : L2.St → Hp → Prop} (k : R σ H) : gNil [] σ H R := ⟨rfl, k⟩
theorem rd_gcons {t : TG} {u : TGs} {R : L2.St → Hp → Prop} (k : t v σ H fun σ' H' => u xs σ' H' R) : gCons t u (v :: xs) σ H R := ⟨v, xs, rfl, k⟩
theorem rd_gtup {n : Nat} {t : TGs} {R : L2.St → Hp → Prop} (h : H p = some (.tup xs)) (e : xs.length = n) (k : t xs σ H R) : gTup K n t (.ref p) σ H R := ⟨p, xs, rfl, SqT.of h, e, k⟩
theorem rd_par {a b : Nat} {tA : TA} (k : tA σ H fun vs H1 => ∃ v w, vs = [v, w] ∧ D.nx ((σ.set a (some v)).set b (some w)) H1) : tPar a b tA D σ H := k
theorem rd_par2 {R : V → V → Prop} (k : R x y) : ∃ v w, [x, y] = [v, w] ∧ R v w := ⟨x, y, rfl, k⟩
theorem rd_drop (k : te σ H fun _ H1 => D.nx σ H1) : tDrop te D σ H := k
theorem rd_ret (k : te σ H D.rt) : tRet te D σ H := k
theorem rd_retN (k : D.rt .non H) : tRetN D σ H := k
theorem rd_nil {R : List V → Hp → Prop} (k : R [] H) : tNil σ H R := k
theorem rd_cons {tl : TA} {R : List V → Hp → Prop} (k : ta σ H fun x H1 => tl σ H1 fun xs H2 => R (x :: xs) H2) : tCons ta tl σ H R := k
theorem rd_tup {tA : TA} (k : tA σ H fun xs H1 => xs.length ≤ sizeLine ∧ ∀ p, H1 p = none → Q (.ref p) (upd H1 p (.tup xs))) : tTup tA σ H Q := k
theorem rd_lst {tA : TA} (k : tA σ H fun xs H1 => xs.length ≤ sizeLine ∧ ∀ p, H1 p = none → Q (.ref p) (upd H1 p (.lst xs))) : tLst tA σ H Q := k
theorem few {n : Nat} (h : n ≤ 1000) : n ≤ sizeLine := Nat.le_of_lt (small1000 h)
theorem rd_new {R : Addr → Prop} (h : xs.length ≤ 1000) (k : ∀ p, H p = none → R p) : xs.length ≤ sizeLine ∧ ∀ p, H p = none → R p := ⟨few h, k⟩
theorem rd_cb {r : List V → Hp → VK → Prop} {tA : TA} (k : tA σ H fun vs H1 => r vs H1 Q) : tCB r tA σ H Q := k
theorem rd_call {sp : Sp} {E : XK} {tA : TA} (k : tA σ H fun vs H1 => sp (vs ++ []) H1 Q E) : tCall sp [] E tA σ H Q := k
theorem rd_make {C : Addr} {sp : Sp} {E : XK} {tA : TA} (k : tA σ H fun vs H1 => ∀ x dx, H1 x = none → H1 dx = none → dx ≠ x →
  sp (.ref x :: (vs ++ [])) (upd (upd H1 dx (.own x)) x (.ins C dx [])) (fun v H2 => v = .non ∧ Q (.ref x) H2) E) : tMake C sp [] E tA σ H Q := k
theorem rd_fld {f : Str} (k : ta σ H fun x H1 => ∃ a C dx fs v, x = .ref a ∧ H1 a = some (.ins C dx fs) ∧ Cls K C ∧ NoAttr K C f ∧ fs.lookup f = some v ∧ Q v H1) : tFld K ta f σ H Q := k
theorem rd_int {R : Int → Prop} {S : Prop} (k : R i) : (∃ j, [V.int i] = [V.int j] ∧ R j) ∨ S := .inl ⟨i, rfl, k⟩
theorem rd_intB {b : Bool} {R : Bool → Prop} {S : Prop} (k : R b) : S ∨ (∃ c, [V.bl b] = [V.bl c] ∧ R c) := .inr ⟨b, rfl, k⟩
theorem rd_one {R : Int → Prop} (k : R i) : ∃ j, [V.int i] = [V.int j] ∧ R j := ⟨i, rfl, k⟩
theorem rd_two {R : Int → Int → Prop} (k : R i j) : ∃ a b, [V.int i, V.int j] = [V.int a, V.int b] ∧ R a b := ⟨i, j, rfl, k⟩
theorem rd_lenL {R : List V → Prop} (h : H p = some (.lst xs)) (k : R xs) : ∃ a ys, [V.ref p] = [V.ref a] ∧ (SqL K H a ys ∨ SqT K H a ys) ∧ R ys := ⟨p, xs, rfl, .inl (SqL.of h), k⟩
theorem rd_lenLs {R : List V → Prop} (h : SqL K H p xs) (k : R xs) : ∃ a ys, [V.ref p] = [V.ref a] ∧ (SqL K H a ys ∨ SqT K H a ys) ∧ R ys := ⟨p, xs, rfl, .inl h, k⟩
theorem rd_lenT {R : List V → Prop} (h : H p = some (.tup xs)) (k : R xs) : ∃ a ys, [V.ref p] = [V.ref a] ∧ (SqL K H a ys ∨ SqT K H a ys) ∧ R ys := ⟨p, xs, rfl, .inr (SqT.of h), k⟩
theorem rd_fldI {C dx a : Addr} {fs : List (Str × V)} {f : Str} (h : H a = some (.ins C dx fs)) (c : Cls K C) (n : NoAttr K C f) (l : fs.lookup f = some v) (k : Q v H) :
    ∃ a' C dx fs v, V.ref a = .ref a' ∧ H a' = some (.ins C dx fs) ∧ Cls K C ∧ NoAttr K C f ∧ fs.lookup f = some v ∧ Q v H := ⟨a, C, dx, fs, v, rfl, h, c, n, l, k⟩
theorem rd_ite {c : Prop} [Decidable c] {A B : Prop} (h1 : c → A) (h2 : ¬ c → B) : if decide c = true then A else B := by
  by_cases h : c
  · rw [if_pos (decide_eq_true h)]
    exact h1 h
  · rw [if_neg (by rw [decide_eq_false h]; exact Bool.false_ne_true)]
    exact h2 h
theorem rd_iteN {c : Prop} [Decidable c] {A B : Prop} (h1 : ¬ c → A) (h2 : c → B) : if (!decide c) = true then A else B := by
  by_cases h : c
  · rw [decide_eq_true h]
    exact iteF (h2 h)
  · rw [decide_eq_false h]
    exact iteT (h1 h)
theorem rd_iteB {b : Bool} {A B : Prop} (h1 : b = true → A) (h2 : b = false → B) : if b = true then A else B := by
  cases b with
  | true => exact iteT (h1 rfl)
  | false => exact iteF (h2 rfl)
end
section
variable {K : PySem.W.Frag} {H : Hp} {Q : VK} {a b c : V} {p : Addr} {xs : List V}
theorem rd_ixL0 (h : H p = some (.lst (a :: xs))) (k : Q a H) : rIxL K (.ref p) (.int 0) H Q := rd_ixL h (atI_nat (j := 0) rfl) k
theorem rd_ixL1 (h : H p = some (.lst (a :: b :: xs))) (k : Q b H) : rIxL K (.ref p) (.int 1) H Q := rd_ixL h (atI_nat (j := 1) rfl) k
theorem rd_ixL2 (h : H p = some (.lst (a :: b :: c :: xs))) (k : Q c H) : rIxL K (.ref p) (.int 2) H Q := rd_ixL h (atI_nat (j := 2) rfl) k
theorem rd_ixT0 (h : H p = some (.tup (a :: xs))) (k : Q a H) : rIxT K (.ref p) (.int 0) H Q := rd_ixT h (atI_nat (j := 0) rfl) k
theorem rd_ixT1 (h : H p = some (.tup (a :: b :: xs))) (k : Q b H) : rIxT K (.ref p) (.int 1) H Q := rd_ixT h (atI_nat (j := 1) rfl) k
theorem rd_setL0 {z : V} {R : Hp → Prop} (h : H p = some (.lst (a :: xs))) (k : R (upd H p (.lst (z :: xs)))) : rSetL (.ref p) (.int 0) z H R := rd_setL (n := 0) h (by simp [ixN]) k
theorem rd_setL2 {z : V} {R : Hp → Prop} (h : H p = some (.lst (a :: b :: c :: xs))) (k : R (upd H p (.lst (a :: b :: z :: xs)))) : rSetL (.ref p) (.int 2) z H R := rd_setL (n := 2) h (by simp [ixN]; omega) k
end
section
variable {K : PySem.W.Frag} {H : Hp} {Q : VK} {i j : Int} {p : Addr} {xs : List V}
/-- an item at an open place within -/
theorem rd_ixLr (h : H p = some (.lst xs)) (h0 : 0 ≤ i) (h1 : i < xs.length) (k : ∀ v, v ∈ xs → Q v H) : rIxL K (.ref p) (.int i) H Q := by
  have hlt : i.toNat < xs.length := by omega
  have e : xs[i.toNat]? = some xs[i.toNat] := List.getElem?_eq_getElem hlt
  exact rd_ixL h (at_of (Int.toNat_of_nonneg h0).symm e) (k _ (List.getElem_mem hlt))
theorem rd_ixLsr (h : SqL K H p xs) (h0 : 0 ≤ i) (h1 : i < xs.length) (k : ∀ v, v ∈ xs → Q v H) : rIxL K (.ref p) (.int i) H Q := by
  have hlt : i.toNat < xs.length := by omega
  have e : xs[i.toNat]? = some xs[i.toNat] := List.getElem?_eq_getElem hlt
  exact rd_ixLs h (at_of (Int.toNat_of_nonneg h0).symm e) (k _ (List.getElem_mem hlt))
/-- % hands on a letter -/
theorem rd_mod (c : 0 < j) (k : ∀ r, r = i % j → 0 ≤ r → r < j → Q (.int r) H) : rI (fun _ j => 0 < j) (fun i j => .int (i % j)) (.int i) (.int j) H Q :=
  rd_I c (k _ rfl (Int.emod_nonneg _ (by omega)) (Int.emod_lt_of_pos _ c))
theorem cmul_l (h1 : -(2 ^ 64) < i) (h2 : i < 2 ^ 64) : CMul i j := .inl ⟨h1, h2⟩
theorem cmul_r (h1 : -(2 ^ 64) < j) (h2 : j < 2 ^ 64) : CMul i j := .inr ⟨h1, h2⟩
theorem cpow (h0 : 0 ≤ j) (h1 : j ≤ 1000000) (h2 : -(2 ^ 64) < i) (h3 : i < 2 ^ 64) : CPow i j := ⟨h0, h1, by omega⟩
theorem cdivw {n : Int} (h0 : 0 < j) (h1 : j < 2 ^ 200) : CDivW n j := wide_div h0 (b := 200) (by omega) (by decide) (by decide)
end
section
variable {K : PySem.W.Frag} {σ : L2.St} {H : Hp} {Q : VK} {D : Ends} {v x y : V} {i j : Int} {a C dx : Addr} {fs : List (Str × V)} {ta te : TE} {f : Str}
theorem rd_sfld (k : te σ H fun y H1 => ta σ H1 fun x H2 => ∃ a C dx fs, x = .ref a ∧ H2 a = some (.ins C dx fs) ∧ Cls K C ∧ NoAttr K C f ∧ fs.length < 1000 ∧ D.nx σ (upd H2 a (.ins C dx (putF f y fs)))) : sFld K ta te f D σ H := k
theorem rd_sfldI {R : Hp → Prop} (h : H a = some (.ins C dx fs)) (c : Cls K C) (n : NoAttr K C f) (l : fs.length < 1000) (k : R (upd H a (.ins C dx (putF f y fs)))) :
    ∃ a' C' dx' fs', V.ref a = .ref a' ∧ H a' = some (.ins C' dx' fs') ∧ Cls K C' ∧ NoAttr K C' f ∧ fs'.length < 1000 ∧ R (upd H a' (.ins C' dx' (putF f y fs'))) := ⟨a, C, dx, fs, rfl, h, c, n, l, k⟩
end
theorem rd_rf {R : Prop} (k : R) : V.non = V.non ∧ R := ⟨rfl, k⟩
theorem rd_bm {K : PySem.W.Frag} {T : String} {r : V → List V → Hp → VK → Prop} {to : TE} {t : TA} {σ : L2.St} {H : Hp} {Q : VK} (k : to σ H fun x H1 => tyV K T x H1 ∧ t σ H1 fun xs H2 => r x xs H2 Q) : tBM K T r to t σ H Q := k
local macro_rules | `(tactic| fail "z hp") => `(tactic| (with_reducible first
  | assumption
  | exact L2.upd_same
  | (refine' (L2.upd_ne ?zn).trans ?zm; (case zn => fail "z ne"); (case zm => fail "z hp"))))
local macro_rules | `(tactic| fail "z ne") => `(tactic| (with_reducible first
  | assumption
  | exact Ne.symm (by assumption)
  | exact Zg.nn (by assumption) (by assumption)
  | exact Zg.nn' (by assumption) (by assumption)
  | (refine' Zg.nn (by assumption) ?zm; (case zm => fail "z hp"))
  | (refine' Zg.nn' (by assumption) ?zm; (case zm => fail "z hp"))))
local macro_rules | `(tactic| fail "z 1") => `(tactic| (with_reducible first
  | refine Zg.rd_var rfl ?_
  | refine Zg.rd_c ?_
  | refine Zg.rd_seq ?_
  | refine Zg.rd_asg ?_
  | refine Zg.rd_name ?_
  | refine Zg.rd_op ?_
  | refine Zg.rd_I0 ?_
  | refine Zg.rd_ret ?_
  | refine Zg.rd_ifS ?_
  | refine Zg.rd_test ?_
  | refine Zg.rd_tB ?_
  | refine Zg.rd_bl ?_
  | refine Zg.rd_un ?_
  | refine Zg.rd_U ?_
  | refine Zg.rd_cons ?_
  | refine Zg.rd_nil ?_
  | refine Zg.rd_sub ?_
  | refine Zg.rd_lst ?_
  | refine Zg.rd_tup ?_
  | refine Zg.rd_cb ?_
  | refine Zg.rd_call ?_
  | refine Zg.rd_make ?_
  | refine Zg.rd_fld ?_
  | refine Zg.rd_chain ?_
  | refine Zg.rd_and ?_
  | refine Zg.rd_or ?_
  | refine Zg.rd_not ?_
  | refine Zg.rd_andV ?_
  | refine Zg.rd_orV ?_
  | refine Zg.rd_notV ?_
  | refine Zg.rd_if ?_
  | refine Zg.rd_next ?_
  | refine Zg.rd_par ?_
  | refine Zg.rd_par2 ?_
  | refine Zg.rd_gnil ?_
  | refine Zg.rd_gcons ?_
  | refine Zg.rd_drop ?_
  | refine Zg.rd_retN ?_
  | refine Zg.rd_eq rfl ?_
  | refine Zg.rd_ne rfl ?_
  | refine Zg.rd_int ?_
  | refine Zg.rd_intB ?_
  | refine Zg.rd_one ?_
  | refine Zg.rd_two ?_
  | refine Zg.rd_sfld ?_
  | refine Zg.rd_bm ?_))
local macro_rules | `(tactic| fail "z side") => `(tactic| (with_reducible first
  | assumption
  | exact Zg.cmul_l (by omega) (by omega)
  | exact Zg.cmul_r (by omega) (by omega)
  | exact Zg.cpow (by omega) (by omega) (by omega) (by omega)
  | exact Zg.cdivw (by omega) (by omega)
  | (show (0 : Int) < _; omega)))
local macro_rules | `(tactic| fail "z 2") => `(tactic| (with_reducible first
  | (refine' Zg.rd_ixL0 ?zh ?_; (case zh => fail "z hp"))
  | (refine' Zg.rd_ixL1 ?zh ?_; (case zh => fail "z hp"))
  | (refine' Zg.rd_ixL2 ?zh ?_; (case zh => fail "z hp"))
  | (refine' Zg.rd_ixT0 ?zh ?_; (case zh => fail "z hp"))
  | (refine' Zg.rd_ixT1 ?zh ?_; (case zh => fail "z hp"))
  | (refine' Zg.rd_I ?zh ?_; (case zh => fail "z side"))
  | (refine' Zg.rd_setL0 ?zh ?_; (case zh => fail "z hp"))
  | (refine' Zg.rd_setL2 ?zh ?_; (case zh => fail "z hp"))
  | (refine' Zg.rd_lenL ?zh ?_; (case zh => fail "z hp"))
  | (refine' Zg.rd_lenT ?zh ?_; (case zh => fail "z hp"))
  | (refine' Zg.rd_new ?zh ?_; (case zh => exact (Nat.le_of_ble_eq_true rfl)))))
local macro_rules | `(tactic| fail "z go") => `(tactic| repeat (first | fail "z 1" | fail "z 2"))
local macro_rules | `(tactic| fail "z run") => `(tactic| repeat (first | fail "z 1" | fail "z 2" | (with_reducible first | refine L2.iteT ?_ | refine L2.iteF ?_ | refine Zg.rd_rf ?_)))
/-! ### own operators of instances -/
section
variable {X : Cx} {CX : CXT} {pins : List (Addr × Obj)} {σ : L2.St} {H : Hp} {s : Shared} {C g : Addr} {fd : FuncData} {ps : List Str} {k : Nat} {sp : Sp} {E : XK}
theorem run_in {A : Around} {Q : VK} {us : List Value} {ws : List V} (F : FnOk X.prog X.w X.K X.mg X.base CX k g fd ps sp) (hr : Room k A) (hb : Binds X.K fd ps []) (e0 : Env0 X.prog X.w X.K X.mg X.base A X.stack s H)
    (hx : Passes CX X E) (I : Inv X pins σ H s) (r : Vals ws us) (h : sp ws H Q E) : wpAny (model X.prog X.w) A (call (.ref g) us) (EP X pins σ Q) X.xe s := by
  have hl : (us ++ []).length = ps.length := by rw [List.append_nil, ← r.length]; exact F.len _ _ _ _ h
  have b := hb s us I.kIn hl
  rw [List.append_nil] at b
  refine wpAny_call (codeAny_mono (F.run A X.stack s H ⟨us, []⟩ us ws Q E hr e0 b r h) fun r s' hq => ?_)
  match r, hq with
  | .error e, z => exact hx pins σ H s e s' I z
  | .ok (.ret _), z => exact I.after z
  | .ok .next, z => exact z.elim
  | .ok .brk, z => exact z.elim
  | .ok .cont, z => exact z.elim
/-- x op y, two instances of the class at C whose def for op is at g -/
def rOwnI (C : Addr) (sp : Sp) (E : XK) : R2 := fun x y H Q => ∃ a dx fs b dy gs, x = .ref a ∧ y = .ref b ∧ H a = some (.ins C dx fs) ∧ H b = some (.ins C dy gs) ∧ sp [x, y] H Q E
theorem op_cmpI {op : CmpOp} (hop : ∀ a b, compareOp op a b = richCompare op a b) (hs : PySem.W.findIn X.K (.ref C) (cmpInfo op).2.1 = some (some (.ref g))) (hf : PySem.W.isFn X.K (.ref g) = true)
    (F : FnOk X.prog X.w X.K X.mg X.base CX k g fd ps sp) (hr : Room k X.A) (hb : Binds X.K fd ps []) (hx : Passes CX X E) : OpR X (compareOp op) (rOwnI C sp E) := by
  intro pins s σ H x y v u Q I rx ry h
  obtain ⟨a, dx, fs, b, dy, gs, rfl, rfl, ha, hb', q⟩ := h
  cases (show v = Value.ref a from rx)
  cases (show u = Value.ref b from ry)
  obtain ⟨mA, O, _⟩ := ins_get I.hok ha
  obtain ⟨od, J, _⟩ := O.look
  obtain ⟨mB, O', _⟩ := ins_get I.hok hb'
  obtain ⟨od', J', _⟩ := O'.look
  obtain ⟨m, hF⟩ := I.fr
  rw [hop]
  refine PySem.W.cmp_K (op := op) (tb := .ref C) hr.units0 hF I.ok.mod.kin J J'.type (by simp [PySem.W.notFirst]) hs hf ?_
  refine wpAny_mono (run_in (us := [.ref a, .ref b]) (ws := [.ref a, .ref b]) F hr hb I.env0 hx I (.cons rfl (.cons rfl .nil)) q) (fun w s' z => ?_) fun _ _ x => x
  obtain ⟨z', H', I', rz, qz⟩ := z
  exact SlX.cmpback rz ⟨z', H', I', rz, qz⟩
theorem op_binI {op : Operator} (hc : PySem.W.selfFirst X.K C = true) (hs : PySem.W.findIn X.K (.ref C) (PySem.dunder op.info.2) = some (some (.ref g))) (hf : PySem.W.isFn X.K (.ref g) = true)
    (F : FnOk X.prog X.w X.K X.mg X.base CX k g fd ps sp) (hr : Room k X.A) (hb : Binds X.K fd ps []) (hx : Passes CX X E) : OpR X (binaryOp op) (rOwnI C sp E) := by
  intro pins s σ H x y v u Q I rx ry h
  obtain ⟨a, dx, fs, b, dy, gs, rfl, rfl, ha, hb', q⟩ := h
  cases (show v = Value.ref a from rx)
  cases (show u = Value.ref b from ry)
  obtain ⟨mA, O, _⟩ := ins_get I.hok ha
  obtain ⟨od, J, _⟩ := O.look
  obtain ⟨mB, O', _⟩ := ins_get I.hok hb'
  obtain ⟨od', J', _⟩ := O'.look
  obtain ⟨m, hF⟩ := I.fr
  refine PySem.W.binop_K hF I.ok.mod.kin J J'.type hc hs hf ?_
  refine wpAny_mono (run_in (us := [.ref a, .ref b]) (ws := [.ref a, .ref b]) F hr hb I.env0 hx I (.cons rfl (.cons rfl .nil)) q) (fun w s' z => ?_) fun _ _ x => x
  obtain ⟨z', H', I', rz, qz⟩ := z
  exact SlX.cmpback rz ⟨z', H', I', rz, qz⟩
end
section
variable {M : Model} {prog : Program} {w : World} {A : Around} {E : Value → Shared → Prop} {s : Shared} {K : PySem.W.Frag} {x C f : Addr} {ox : Obj} {od : Option Obj} {b : Value}
theorem ifBound_ne {args : List Value} {Q : Option Value → Shared → Prop} (X : K.In s.heap) (I : PySem.W.InstAt s.heap x ox C od) (hs : PySem.W.findIn K (.ref C) "__ne__" = some (some (.builtin "object.__ne__")))
    (h : wpAny M A (call (.builtin "object.__ne__") (.ref x :: args)) (fun v => Q (some v)) E s) : wpAny M A (callSpecialIfBound? (.ref x) "__ne__" args) Q E s := by
  simp only [callSpecialIfBound?, bindSpecialIfBound?]
  refine wpAny_holding (wpAny_bind (wpAny_bind (wpAny_bind (I.type.here ((PySem.W.looks_findIn X hs).here ?_)))))
  refine wpAny_bind (wpAny_askSetting (wpAny_ite ?_))
  have fin : wpAny M A (call (.builtin "object.__ne__") ([.ref x] ++ args) >>= fun v => pure (some v)) Q E s := wpAny_bind (wpAny_mono h (fun v s' h' => wpAny_pure h') fun _ _ h' => h')
  split
  · exact wpAny_bind (wpAny_of_eq (F.cmp_object.ne.bind _) (wpAny_pure (by exact fin)))
  · exact wpAny_tryCatch (wpAny_bind (wpAny_of_eq (F.cmp_object.ne.bind _) (wpAny_pure (by exact fin))))
theorem entry_ne {Q : PySem.Fin → Shared → Prop} (hu : A.units < cLine) (X : K.In s.heap) (I : PySem.W.InstAt s.heap x ox C od) (hs : PySem.W.findIn K (.ref C) "__eq__" = some (some (.ref f))) (hf : PySem.W.isFn K (.ref f) = true)
    (h : wpAny (model prog w) A (call (.ref f) [.ref x, b]) (fun v s' => ∃ c, v = .bool c ∧ Q (.done (.ret (.bool (!c)))) s') E s) : wpAny (model prog w) A (Builtin.«object.__ne__» ⟨[.ref x, b], []⟩) Q E s := by
  unfold Builtin.«object.__ne__»
  repeat (first
    | with_reducible refine wpAny_cRoomFor hu ?_
    | (refine wpAny_bind (m := callSpecialIfBound? (.ref x) (Str.ofString "__eq__") [b])
        (PySem.W.ifBound_K X I hs hf (wpAny_mono h (fun r s' hr => by
          obtain ⟨c, rfl, hq⟩ := hr
          repeat (first | exact hq | exact wpAny_pure hq | exact wpAny_truthy_bool hq | (refine wpAny_bind (m := truthy (.bool _)) (wpAny_truthy_bool ?_)) | wp_step)) fun _ _ e => e)))
    | wp_step)
theorem ne_K {L : Addr} {h₀ : Heap} {m : Str → Option Value} {Q : Value → Shared → Prop} (hu : A.units + 1 < cLine) (F0 : PyProof.Rows.Fr h₀ L s.heap m) (X₀ : K.In h₀) (I : PySem.W.InstAt s.heap x ox C od) (hb : PySem.W.Looks (model prog w) s.heap (typeOf b) (.ref C))
    (hm : PySem.W.mroIn K C (.type "object") = some true) (hn : PySem.W.findIn K (.ref C) "__ne__" = some (some (.builtin "object.__ne__"))) (hs : PySem.W.findIn K (.ref C) "__eq__" = some (some (.ref f))) (hf : PySem.W.isFn K (.ref f) = true)
    (h : wpAny (model prog w) A.in1 (call (.ref f) [.ref x, b]) (fun v s' => ∃ c, v = .bool c ∧ Q (.bool (!c)) s') E s) : wpAny (model prog w) A (richCompare .NotEq (.ref x) b) Q E s := by
  have X := X₀.keeps F0.keep
  have one : wpAny (model prog w) A (tryCompare (.ref x) "__ne__" b) (fun r s' => ∃ v, r = some v ∧ Q v s') E s := by
    unfold tryCompare
    refine wpAny_bind (ifBound_ne X I hn (wpAny_call (codeAny_call_builtin F.cmp_object.ne.plain F.cmpEntry_ne (PySem.W.check_slot F.cmpKind_ne F.cmpSplit_ne (I.type.andThen (PySem.W.looks_mroIn X hm)) (F.cmpArgs_ne _ _)
      (entry_ne (A := A.in1) hu X I hs hf (wpAny_mono h (fun v s' hv => ?_) fun _ _ e => e))))))
    obtain ⟨c, rfl, hq⟩ := hv
    first
      | exact ⟨c, rfl, wpAny_pure ⟨_, rfl, hq⟩⟩
      | exact ⟨c, rfl, _, rfl, hq⟩
  simp only [richCompare, cmpInfo_NotEq, oneThing_ref]
  refine wpAny_holding (wpAny_bind (wpAny_cRoomFor (Nat.lt_of_succ_lt hu) ?_))
  refine wpAny_bind (I.type.here (wpAny_bind (hb.here ?_)))
  rw [show (Value.ref C != Value.ref C) = false from by simp]
  simp only [Bool.false_eq_true, if_false]
  refine wpAny_bind (wpAny_pure ?_)
  simp only [Bool.false_eq_true, if_false]
  refine wpAny_bind (wpAny_mono one (fun r s' z => ?_) fun _ _ e => e)
  obtain ⟨v, rfl, hq⟩ := z
  exact wpAny_pure hq
end
section
variable {X : Cx} {CX : CXT} {C g : Addr} {fd : FuncData} {ps : List Str} {k : Nat} {sp : Sp} {E : XK}
/-- x != y by the own == -/
def rNeI (C : Addr) (sp : Sp) (E : XK) : R2 := fun x y H Q => ∃ a dx fs b dy gs, x = .ref a ∧ y = .ref b ∧ H a = some (.ins C dx fs) ∧ H b = some (.ins C dy gs) ∧ sp [x, y] H (fun z H' => ∃ c, z = .bl c ∧ Q (.bl (!c)) H') E
theorem op_neI (hm : PySem.W.mroIn X.K C (.type "object") = some true) (hn : PySem.W.findIn X.K (.ref C) "__ne__" = some (some (.builtin "object.__ne__"))) (hs : PySem.W.findIn X.K (.ref C) "__eq__" = some (some (.ref g))) (hf : PySem.W.isFn X.K (.ref g) = true)
    (F : FnOk X.prog X.w X.K X.mg X.base CX k g fd ps sp) (hr : Room (k + 1) X.A) (hb : Binds X.K fd ps []) (hx : Passes CX X E) (hu : X.A.units + 1 < cLine) : OpR X (compareOp .NotEq) (rNeI C sp E) := by
  intro pins s σ H x y v u Q I rx ry h
  obtain ⟨a, dx, fs, b, dy, gs, rfl, rfl, ha, hb', q⟩ := h
  cases (show v = Value.ref a from rx)
  cases (show u = Value.ref b from ry)
  obtain ⟨mA, O, _⟩ := ins_get I.hok ha
  obtain ⟨od, J, _⟩ := O.look
  obtain ⟨mB, O', _⟩ := ins_get I.hok hb'
  obtain ⟨od', J', _⟩ := O'.look
  obtain ⟨m, hF⟩ := I.fr
  show wpAny _ _ (richCompare .NotEq (.ref a) (.ref b)) _ _ s
  refine ne_K hu hF I.ok.mod.kin J J'.type hm hn hs hf ?_
  refine wpAny_mono (run_in (us := [.ref a, .ref b]) (ws := [.ref a, .ref b]) F hr.in1 hb I.env0.in1 hx I (.cons rfl (.cons rfl .nil)) q) (fun w s' z => ?_) fun _ _ x => x
  obtain ⟨z', H', I', rz, c, ec, qz⟩ := z
  subst ec
  cases (show w = Value.bool c from rz)
  exact ⟨c, rfl, .bl (!c), H', I', rfl, qz⟩
end
def top (i : Nat) : Stmt := PySem.Challenge.pw_widerkeys_k08_what_is_no_span.main.body.getD i (.Pass ⟨0, 0, 0, 0⟩)
abbrev s__law_take : Stmt := (top 30)
abbrev N__law_take : List Str := ["_law_pot", "_law_upto", "_law_digit", "_law_prime", "_law_stirred"]
abbrev P__law_take : List Str := ["_law_pot", "_law_upto"]
theorem sc__law_take : FnScope N__law_take P__law_take (defScope s__law_take) := ⟨rfl, rfl, rfl, by decide +kernel, rfl, by decide +kernel, by decide +kernel⟩
abbrev s__law_of : Stmt := (top 31)
abbrev N__law_of : List Str := ["_law_pot", "_law_some"]
abbrev P__law_of : List Str := ["_law_pot", "_law_some"]
theorem sc__law_of : FnScope N__law_of P__law_of (defScope s__law_of) := ⟨rfl, rfl, rfl, by decide +kernel, rfl, by decide +kernel, by decide +kernel⟩
abbrev s__law_pot_of : Stmt := (top 29)
abbrev N__law_pot_of : List Str := ["_law_script", "_law_k", "_law_cell", "_law_own"]
abbrev P__law_pot_of : List Str := ["_law_script", "_law_k"]
theorem sc__law_pot_of : FnScope N__law_pot_of P__law_pot_of (defScope s__law_pot_of) := ⟨rfl, rfl, rfl, by decide +kernel, rfl, by decide +kernel, by decide +kernel⟩

/-- a pot from which n more numbers may be drawn -/
def Pot (H : Hp) (p : Addr) (n : Nat) : Prop := ∃ o s c : Int, H p = some (.lst [.int o, .int s, .int c]) ∧ 0 ≤ o ∧ 0 ≤ s ∧ s < 2305843009213693921 ∧ 0 ≤ c ∧ c + n ≤ 100000
/-- all that was tracked stands, but p -/
def Kp (p : Addr) (H H' : Hp) : Prop := ∀ b o, b ≠ p → H b = some o → H' b = some o
theorem Kp.refl {p : Addr} {H : Hp} : Kp p H H := fun _ _ _ h => h
theorem Kp.trans {p : Addr} {H H1 H2 : Hp} (a : Kp p H H1) (b : Kp p H1 H2) : Kp p H H2 := fun c o n h => b c o n (a c o n h)
theorem Kp.put {p : Addr} {H H1 : Hp} {o : HO} (a : Kp p H H1) : Kp p H (upd H1 p o) := fun c u n h => by
  rw [upd_ne n]
  exact a c u n h
theorem Kp.new {p q : Addr} {H H1 : Hp} {o : HO} (a : Kp p H H1) (hq : H1 q = none) : Kp p H (upd H1 q o) := fun c u n h => by
  have z := a c u n h
  rw [upd_ne (ne_of_none z hq)]
  exact z
theorem same_new {H : Hp} {p : Addr} {o : HO} (h : H p = none) : Same H (upd H p o) := fun b u e => (upd_ne (ne_of_none e h)).trans e
theorem if01 (b : Bool) : (0 : Int) ≤ if b = true then 1 else 0 := by cases b <;> decide
theorem Pot.le {H : Hp} {p : Addr} {m n : Nat} (h : Pot H p n) (l : m ≤ n) : Pot H p m := by
  obtain ⟨o, s, c, a, b, d, e, f, g⟩ := h
  exact ⟨o, s, c, a, b, d, e, f, by omega⟩
theorem Pot.new {H : Hp} {p q : Addr} {n : Nat} {o : HO} (h : Pot H p n) (hq : H q = none) : Pot (upd H q o) p n := by
  obtain ⟨x, s, c, a, b⟩ := h
  exact ⟨x, s, c, (upd_ne (ne_of_none a hq)).trans a, b⟩
theorem Pot.ne {H : Hp} {p q : Addr} {n : Nat} (h : Pot H p n) (hq : H q = none) : p ≠ q := by
  obtain ⟨x, s, c, a, b⟩ := h
  exact ne_of_none a hq
def spTake : Sp := fun vs H Q _ => ∃ (p : Addr) (n : Nat) (u : Int), vs = [.ref p, .int u] ∧ Pot H p (n + 1) ∧ 0 < u ∧ u < 2 ^ 200 ∧
  ∀ (r : Int) (H' : Hp), 0 ≤ r → r < u → Kp p H H' → Pot H' p n → Q (.int r) H'
def spOf : Sp := fun vs H Q _ => ∃ (p a : Addr) (n : Nat) (xs : List V), vs = [.ref p, .ref a] ∧ Pot H p (n + 1) ∧ a ≠ p ∧ H a = some (.lst xs) ∧ 0 < xs.length ∧ xs.length ≤ 1000 ∧
  ∀ (v : V) (H' : Hp), v ∈ xs → Kp p H H' → Pot H' p n → Q v H'
def spPotOf (K : PySem.W.Frag) : Sp := fun vs H Q _ => ∃ (a : Addr) (ns : List Int) (k : Int), vs = [.ref a, .int k] ∧ SqL K H a (ns.map V.int) ∧ ns.length ≤ 1000 ∧ 0 ≤ k ∧ k ≤ 2 ∧
  ∀ (p : Addr) (H' : Hp), H p = none → Same H H' → Pot H' p 100000 → Q (.ref p) H'
/-- a def that stands in the module under its name, with its promise -/
def Cal (P : Program) (w : World) (K : PySem.W.Frag) (mg : Str → Option Value) (base : Heap) (k : Nat) (x : Str) (ps : List Str) (sp : Sp) : Prop :=
  ∃ (f : Addr) (fd : FuncData), FnOk P w K mg base CX0 k f fd ps sp ∧ Binds K fd ps [] ∧ mg x = some (.ref f) ∧ PySem.W.keepIn K (.ref f) = true
def CalG (P : Program) (w : World) (K : PySem.W.Frag) (mg : Str → Option Value) (base : Heap) (k : Nat) (x : Str) (ps : List Str) (sp : Sp) : Prop :=
  ∃ (f : Addr) (fd : FuncData), FnG P w K mg base CX0 k f fd ps sp ∧ Binds K fd ps [] ∧ mg x = some (.ref f) ∧ PySem.W.keepIn K (.ref f) = true
theorem hu70 {k : Nat} {A : Around} (r : Room k A) : A.units + 70 < cLine := by
  have := r.un
  omega
structure Txt (mg : Str → Option Value) : Prop where
  n_int : mg "int" = none
  n_len : mg "len" = none
  n_abs : mg "abs" = none
  n_bool : mg "bool" = none
  n_tuple : mg "tuple" = none
  n_isinstance : mg "isinstance" = none
  n_range : mg "range" = none
  n_max : mg "max" = none
  n_min : mg "min" = none
  n_all : mg "all" = none
  n_repr : mg "repr" = none
section
variable {P : Program} {w : World} {K : PySem.W.Frag} {mg : Str → Option Value} {base : Heap}
theorem ok_take {f : Addr} {fd : FuncData} (F : Fun K "_law_take" "_law_take" s__law_take f fd) (T : Txt mg) : FnOk P w K mg base CX0 1 f fd P__law_take spTake := by
  refine F.ok sc__law_take (fun vs H Q E h => ?_) (fun cdv A outer s H vs Q E hr h => ?_)
  · obtain ⟨p, n, u, rfl, _⟩ := h
    rfl
  · obtain ⟨p, n, u, rfl, ⟨o, z, c, hp, o0, z0, z1, c0, c1⟩, u0, u1, k⟩ := h
    refine ⟨_, (pss_cons (ps_if (pt_cmpR op_gt (pe_ix ix_list (pv 0) pe_int (fun _ _ => rfl)) pe_int (nomark _)) (pss_cons (ps_set (i := 2) sc__law_take.nd rfl (Or.inl rfl) (pe_op op_mod (pe_callTy call_int1 (by rfl) T.n_int (by decide +kernel) (pa_cons (pe_ix ix_list (pv 0) pe_int (fun _ _ => rfl)) pa_nil)) (pv 1)))
      (pss_cons (ps_asg (pe_op op_fdivW (pe_ix ix_list (pv 0) pe_int (fun _ _ => rfl)) (pv 1)) (pg_sub (pv 0) pe_int set_list))
      (pss_one (ps_ret (pv 2))))) pss_nil)
      (pss_cons (ps_asg (pe_op op_add (pe_ix ix_list (pv 0) pe_int (fun _ _ => rfl)) pe_int) (pg_sub (pv 0) pe_int set_list))
      (pss_cons (ps_set (i := 3) sc__law_take.nd rfl (Or.inl rfl) (pe_ix ix_list (pe_lst (pa_cons pe_int (pa_cons pe_int (pa_cons pe_int (pa_cons pe_int (pa_cons pe_int pa_nil)))))) (pe_op op_mod (pe_callTy call_int1 (by rfl) T.n_int (by decide +kernel) (pa_cons (pe_ix ix_list (pv 0) pe_int (fun _ _ => rfl)) pa_nil)) pe_int) (fun _ _ => rfl)))
      (pss_cons (ps_set (i := 4) sc__law_take.nd rfl (Or.inl rfl) (pe_op op_mod (pe_callTy call_int1 (by rfl) T.n_int (by decide +kernel) (pa_cons (pe_op op_pow (pe_op op_add (pe_op op_add (pe_ix ix_list (pv 0) pe_int (fun _ _ => rfl)) (pe_op op_mul (pe_op op_mul pe_int (pe_ix ix_list (pv 0) pe_int (fun _ _ => rfl))) (pe_ix ix_list (pv 0) pe_int (fun _ _ => rfl)))) pe_int) pe_int) pa_nil)) (pv 3)))
      (pss_one (ps_ret (pe_op op_mod (pe_callTy call_int1 (by rfl) T.n_int (by decide +kernel) (pa_cons (pe_op op_fdivW (pe_op op_mul (pv 4) (pe_op op_add (pe_op op_mod (pe_callTy call_int1 (by rfl) T.n_int (by decide +kernel) (pa_cons (pv 4) pa_nil)) pe_int) (pe_op op_mul pe_int (pe_ix ix_list (pv 0) pe_int (fun _ _ => rfl))))) pe_int) pa_nil)) (pv 1)))))))), ?_⟩
    fail "z go"
    refine rd_ite (fun h => ?_) (fun h => ?_)
    · fail "z go"
      exact k _ _ (Int.emod_nonneg _ (by omega)) (Int.emod_lt_of_pos _ u0) Kp.refl.put ⟨_, _, _, upd_same, Int.ediv_nonneg o0 (by omega), z0, z1, c0, by omega⟩
    · fail "z go"
      intro q hq
      have npq : p ≠ q := ne_of_none upd_same hq
      fail "z go"
      refine rd_ixLr upd_same (Int.emod_nonneg _ (by decide)) (Int.emod_lt_of_pos _ (by decide)) fun m hm => ?_
      obtain ⟨m, rfl, m0, m1⟩ : ∃ i : Int, m = .int i ∧ 2147483563 ≤ i ∧ i ≤ 2147483647 := by
        simp only [List.mem_cons, List.not_mem_nil, or_false] at hm
        rcases hm with rfl | rfl | rfl | rfl | rfl <;> exact ⟨_, rfl, by decide, by decide⟩
      have sq0 : 0 ≤ (c + 1) * (c + 1) := Int.mul_nonneg (by omega) (by omega)
      have sq1 : (c + 1) * (c + 1) ≤ 100000 * 100000 := Int.mul_le_mul (by omega) (by omega) (by omega) (by decide)
      have sq2 : 90001 * (c + 1) * (c + 1) = 90001 * ((c + 1) * (c + 1)) := Int.mul_assoc _ _ _
      fail "z go"
      refine k _ _ (Int.emod_nonneg _ (by omega)) (Int.emod_lt_of_pos _ u0) (Kp.refl.put.new hq) ⟨_, _, _, (upd_ne npq).trans upd_same, o0, z0, z1, by omega, by omega⟩
theorem ok_of {f : Addr} {fd : FuncData} (F : Fun K "_law_of" "_law_of" s__law_of f fd) (T : Txt mg) (c_take : Cal P w K mg base 1 "_law_take" P__law_take spTake) :
    FnOk P w K mg base CX0 2 f fd P__law_of spOf := by
  obtain ⟨f_take, fd_take, G__law_take, b__law_take, g__law_take, k__law_take⟩ := c_take
  refine F.ok sc__law_of (fun vs H Q E h => ?_) (fun cdv A outer s H vs Q E hr h => ?_)
  · obtain ⟨p, a, n, xs, rfl, _⟩ := h
    rfl
  · obtain ⟨p, a, n, xs, rfl, hp, nap, ha, l0, l1, k⟩ := h
    refine ⟨_, (pss_one (ps_ret (pe_ix ix_list (pv 1) (pe_call G__law_take (hr.mono (by decide)) rfl g__law_take k__law_take b__law_take .nil pass0 (pa_cons (pv 0) (pa_cons (pe_callB call_len_seq (by rfl) T.n_len (by decide +kernel) (pa_cons (pv 1) pa_nil)) pa_nil))) (fun _ _ => rfl)))), ?_⟩
    fail "z go"
    refine ⟨p, n, _, rfl, hp, by omega, by omega, fun r H' r0 r1 kp pt => ?_⟩
    exact rd_ixLr (kp a _ nap ha) r0 r1 fun v hv => k v H' hv kp pt
theorem ok_pot_of {f : Addr} {fd : FuncData} (F : Fun K "_law_pot_of" "_law_pot_of" s__law_pot_of f fd) (T : Txt mg) : FnOk P w K mg base CX0 1 f fd P__law_pot_of (spPotOf K) := by
  refine F.ok sc__law_pot_of (fun vs H Q E h => ?_) (fun cdv A outer s H vs Q E hr h => ?_)
  · obtain ⟨a, ns, x, rfl, _⟩ := h
    rfl
  · obtain ⟨a, ns, x, rfl, hS, few, x0, x1, k⟩ := h
    refine ⟨_, (pss_cons (ps_set (i := 2) sc__law_pot_of.nd rfl (Or.inl rfl) (pe_ifExp (pt_cmpR op_lt (pv 1) (pe_callB call_len_seq (by rfl) T.n_len (by decide +kernel) (pa_cons (pv 0) pa_nil)) (nomark _)) (pe_ix ix_list (pv 0) (pv 1) (fun _ _ => rfl)) (pe_op op_add (pe_op op_mul pe_int (pv 1)) pe_int)))
      (pss_cons (ps_set (i := 3) sc__law_pot_of.nd rfl (Or.inl rfl) (pe_op op_mul (pe_op op_mod (pe_callTy call_int1 (by rfl) T.n_int (by decide +kernel) (pa_cons (pe_callB call_abs (by rfl) T.n_abs (by decide +kernel) (pa_cons (pv 2) pa_nil)) pa_nil)) (pe_op op_powZ (pe_op op_pow pe_int pe_int) pe_int)) (pe_callTy call_int1 (by rfl) T.n_int (by decide +kernel) (pa_cons (pe_cmpR op_ge (pe_callB call_abs (by rfl) T.n_abs (by decide +kernel) (pa_cons (pv 2) pa_nil)) (pe_op op_pow pe_int pe_int) (nomark _)) pa_nil))))
      (pss_one (ps_ret (pe_lst (pa_cons (pv 3) (pa_cons (pe_op op_mod (pe_callTy call_int1 (by rfl) T.n_int (by decide +kernel) (pa_cons (pe_op op_add (pe_op op_add (pe_op op_mul (pe_op op_mod (pe_callTy call_int1 (by rfl) T.n_int (by decide +kernel) (pa_cons (pv 2) pa_nil)) pe_int) pe_int) (pe_op op_mul (pe_op op_mul pe_int (pv 1)) (pv 1))) pe_int) pa_nil)) pe_int) (pa_cons pe_int pa_nil)))))))), ?_⟩
    fail "z go"
    refine rd_lenLs hS ?_
    fail "z go"
    refine rd_ite (fun h => ?_) (fun h => ?_)
    · fail "z go"
      refine rd_ixLsr hS x0 h fun v hv => ?_
      obtain ⟨c, _, rfl⟩ := List.mem_map.mp hv
      fail "z go"
      refine rd_I (show CPowZ _ _ from ⟨by decide, by decide +kernel⟩) ?_
      fail "z go"
      refine rd_I (by decide +kernel) ?_
      fail "z go"
      intro p hp
      refine k p _ hp (same_new hp) ⟨_, _, _, upd_same, Int.mul_nonneg (Int.emod_nonneg _ (by decide +kernel)) (if01 _), Int.emod_nonneg _ (by decide), Int.emod_lt_of_pos _ (by decide), by decide, by decide⟩
    · fail "z go"
      refine rd_I (show CPowZ _ _ from ⟨by decide, by decide +kernel⟩) ?_
      fail "z go"
      refine rd_I (by decide +kernel) ?_
      fail "z go"
      intro p hp
      refine k p _ hp (same_new hp) ⟨_, _, _, upd_same, Int.mul_nonneg (Int.emod_nonneg _ (by decide +kernel)) (if01 _), Int.emod_nonneg _ (by decide), Int.emod_lt_of_pos _ (by decide), by decide, by decide⟩
/-! ### integers and kinds -/
abbrev s_is_integer : Stmt := (top 9)
abbrev N_is_integer : List Str := ["value"]
abbrev P_is_integer : List Str := ["value"]
theorem sc_is_integer : FnScope N_is_integer P_is_integer (defScope s_is_integer) := ⟨rfl, rfl, rfl, by decide +kernel, rfl, by decide +kernel, by decide +kernel⟩
abbrev s_Kind___init__ : Stmt := (inClass (top 26) 0)
abbrev N_Kind___init__ : List Str := ["self", "low", "high"]
abbrev P_Kind___init__ : List Str := ["self", "low", "high"]
theorem sc_Kind___init__ : FnScope N_Kind___init__ P_Kind___init__ (defScope s_Kind___init__) := ⟨rfl, rfl, rfl, by decide +kernel, rfl, by decide +kernel, by decide +kernel⟩

/-- a plain value: none, a bool, an int, a text, a list, a tuple, a dict -/
inductive Plain (H : Hp) : V → Prop where
  | non : Plain H .non
  | bl (b : Bool) : Plain H (.bl b)
  | int (i : Int) : Plain H (.int i)
  | str (x : Str) : Plain H (.str x)
  | lst {a : Addr} {xs : List V} (e : H a = some (.lst xs)) : Plain H (.ref a)
  | tup {a : Addr} {xs : List V} (e : H a = some (.tup xs)) : Plain H (.ref a)
  | dK {a : Addr} {kvs : List (Key × V)} (e : H a = some (.dK kvs)) : Plain H (.ref a)
def isI : V → Bool
  | .int _ => true
  | _ => false
/-- isinstance of a plain value and a built-in class -/
theorem rd_isi {K : PySem.W.Frag} {H : Hp} {Q : VK} {v : V} {t n : String} {b : Bool} (ty : TyX K H v (.type t)) (e : kitB t n = some b) (k : Q (.bl b) H) : rIsi K [v, .ty n] H Q :=
  ⟨v, .ty n, _, _, b, rfl, .ty n, ty, kit_ty e, k⟩
theorem rd_isiP {K : PySem.W.Frag} {H : Hp} {Q : VK} {v : V} (p : Plain H v) (k1 : ∀ b : Bool, (b = true → isI v = true ∨ ∃ c, v = .bl c) → (isI v = true → b = true) → (∀ c, v = .bl c → b = true) → Q (.bl b) H) : rIsi K [v, .ty "int"] H Q := by
  cases p with
  | non => exact rd_isi (.base .non) (by decide +kernel) (k1 false (fun z => nomatch z) (fun z => nomatch z) fun c z => nomatch z)
  | bl b => exact rd_isi (.base (.bl b)) (by decide +kernel) (k1 true (fun _ => .inr ⟨b, rfl⟩) (fun _ => rfl) fun _ _ => rfl)
  | int i => exact rd_isi (.base (.int i)) (by decide +kernel) (k1 true (fun _ => .inl rfl) (fun _ => rfl) fun _ _ => rfl)
  | str x => exact rd_isi (.base (.str x)) (by decide +kernel) (k1 false (fun z => nomatch z) (fun z => nomatch z) fun c z => nomatch z)
  | lst e => exact rd_isi (.base (.lst e)) (by decide +kernel) (k1 false (fun z => nomatch z) (fun z => nomatch z) fun c z => nomatch z)
  | tup e => exact rd_isi (.base (.tup e)) (by decide +kernel) (k1 false (fun z => nomatch z) (fun z => nomatch z) fun c z => nomatch z)
  | dK e => exact rd_isi (.base (.dK e)) (by decide +kernel) (k1 false (fun z => nomatch z) (fun z => nomatch z) fun c z => nomatch z)
theorem rd_isiB {K : PySem.W.Frag} {H : Hp} {Q : VK} {v : V} (p : Plain H v) (k1 : ∀ b : Bool, (b = true ↔ ∃ c, v = .bl c) → Q (.bl b) H) : rIsi K [v, .ty "bool"] H Q := by
  cases p with
  | non => exact rd_isi (.base .non) (by decide +kernel) (k1 false ⟨fun z => Bool.noConfusion z, fun ⟨c, z⟩ => V.noConfusion z⟩)
  | bl b => exact rd_isi (.base (.bl b)) (by decide +kernel) (k1 true ⟨fun _ => ⟨b, rfl⟩, fun _ => rfl⟩)
  | int i => exact rd_isi (.base (.int i)) (by decide +kernel) (k1 false ⟨fun z => Bool.noConfusion z, fun ⟨c, z⟩ => V.noConfusion z⟩)
  | str x => exact rd_isi (.base (.str x)) (by decide +kernel) (k1 false ⟨fun z => Bool.noConfusion z, fun ⟨c, z⟩ => V.noConfusion z⟩)
  | lst e => exact rd_isi (.base (.lst e)) (by decide +kernel) (k1 false ⟨fun z => Bool.noConfusion z, fun ⟨c, z⟩ => V.noConfusion z⟩)
  | tup e => exact rd_isi (.base (.tup e)) (by decide +kernel) (k1 false ⟨fun z => Bool.noConfusion z, fun ⟨c, z⟩ => V.noConfusion z⟩)
  | dK e => exact rd_isi (.base (.dK e)) (by decide +kernel) (k1 false ⟨fun z => Bool.noConfusion z, fun ⟨c, z⟩ => V.noConfusion z⟩)
def spIsInt : Sp := fun vs H Q _ => ∃ v, vs = [v] ∧ Plain H v ∧ Q (.bl (isI v)) H
theorem ok_is_integer {f : Addr} {fd : FuncData} (F : Fun K "is_integer" "is_integer" s_is_integer f fd) (T : Txt mg) : FnOk P w K mg base CX0 1 f fd P_is_integer spIsInt := by
  refine F.ok sc_is_integer (fun vs H Q E h => ?_) (fun cdv A outer s H vs Q E hr h => ?_)
  · obtain ⟨v, rfl, _⟩ := h
    rfl
  · obtain ⟨v, rfl, p, k⟩ := h
    refine ⟨_, (pss_one (ps_ret (pe_and (pe_callB call_isi (by rfl) T.n_isinstance (by decide +kernel) (pa_cons (pv 0) (pa_cons (pe_bltn (v := .ty "int") (by rfl) T.n_int (by decide +kernel) rfl) pa_nil))) (pe_one (pe_not (pe_callB call_isi (by rfl) T.n_isinstance (by decide +kernel) (pa_cons (pv 0) (pa_cons (pe_bltn (v := .ty "bool") (by rfl) T.n_bool (by decide +kernel) rfl) pa_nil)))))))), ?_⟩
    fail "z go"
    refine rd_isiP p fun b h1 h2 h3 => ?_
    fail "z go"
    refine rd_iteB (fun hb => ?_) (fun hb => ?_)
    · fail "z go"
      refine rd_isiB p fun c hc => ?_
      fail "z go"
      show Q (.bl (!c)) H
      have e : (!c) = isI v := by
        rcases h1 hb with z | z
        · rw [z]
          cases c with
          | false => rfl
          | true =>
            obtain ⟨d, rfl⟩ := hc.mp rfl
            cases z
        · rw [hc.mpr z]
          obtain ⟨d, rfl⟩ := z
          rfl
      rw [e]
      exact k
    · show Q (.bl false) H
      have e : isI v = false := by
        cases q : isI v with
        | false => rfl
        | true =>
          rw [h2 q] at hb
          cases hb
      rw [← e]
      exact k
/-- the fields of a kind -/
def kf (lo hi : Int) : List (Str × V) := putF "size" (.int (hi - lo + 1)) (putF "high" (.int hi) (putF "low" (.int lo) []))
theorem kf_low (lo hi : Int) : (kf lo hi).lookup ("low" : Str) = some (.int lo) := by
  unfold kf
  rw [lookup_putF, if_neg (by decide +kernel), lookup_putF, if_neg (by decide +kernel), lookup_putF, if_pos rfl]
theorem kf_high (lo hi : Int) : (kf lo hi).lookup ("high" : Str) = some (.int hi) := by
  unfold kf
  rw [lookup_putF, if_neg (by decide +kernel), lookup_putF, if_pos rfl]
theorem kf_size (lo hi : Int) : (kf lo hi).lookup ("size" : Str) = some (.int (hi - lo + 1)) := by
  unfold kf
  rw [lookup_putF, if_pos rfl]
structure KindT (K : PySem.W.Frag) (C : Addr) : Prop where
  cl : Cls K C
  n_low : NoAttr K C "low"
  n_high : NoAttr K C "high"
  n_size : NoAttr K C "size"
def IsKind (C : Addr) (H : Hp) (a : Addr) (lo hi : Int) : Prop := ∃ dx, H a = some (.ins C dx (kf lo hi))
theorem IsKind.same {C a : Addr} {H H' : Hp} {lo hi : Int} (h : IsKind C H a lo hi) (s : Same H H') : IsKind C H' a lo hi := by
  obtain ⟨dx, e⟩ := h
  exact ⟨dx, s _ _ e⟩
def spKind (C : Addr) : Sp := fun vs H Q _ => ∃ (p dx : Addr) (lo hi : Int), vs = [.ref p, .int lo, .int hi] ∧ lo ≤ 0 ∧ 0 ≤ hi ∧ H p = some (.ins C dx []) ∧
  ∀ H' : Hp, Kp p H H' → H' p = some (.ins C dx (kf lo hi)) → Q .non H'
def CalK (P : Program) (w : World) (K : PySem.W.Frag) (mg : Str → Option Value) (base : Heap) (C : Addr) : Prop :=
  ∃ (f : Addr) (fd : FuncData), Mk K C f ∧ FnOk P w K mg base CX0 2 f fd P_Kind___init__ (spKind C) ∧ Binds K fd P_Kind___init__ [] ∧ mg "Kind" = some (.ref C)
theorem ok_Kind {f C : Addr} {fd : FuncData} (F : Fun K "__init__" "Kind.__init__" s_Kind___init__ f fd) (KT : KindT K C) (c_is : Cal P w K mg base 1 "is_integer" P_is_integer spIsInt) :
    FnOk P w K mg base CX0 2 f fd P_Kind___init__ (spKind C) := by
  obtain ⟨f_is, fd_is, G_is_integer, b_is_integer, g_is_integer, k_is_integer⟩ := c_is
  refine F.ok sc_Kind___init__ (fun vs H Q E h => ?_) (fun cdv A outer s H vs Q E hr h => ?_)
  · obtain ⟨p, dx, lo, hi, rfl, _⟩ := h
    rfl
  · obtain ⟨p, dx, lo, hi, rfl, h1, h2, hp, k⟩ := h
    refine ⟨_, (pss_cons (ps_if (PW.pt (pw_or (pt_not (pt_val (pe_call G_is_integer (hr.mono (by decide)) rfl g_is_integer k_is_integer b_is_integer .nil pass0 (pa_cons (pv 1) pa_nil)))) (pw_or (pt_not (pt_val (pe_call G_is_integer (hr.mono (by decide)) rfl g_is_integer k_is_integer b_is_integer .nil pass0 (pa_cons (pv 2) pa_nil)))) (pw_or1 (pt_not (pt_chain op_le op_le (pv 1) pe_int (pv 2))))))) (pss_one ps_never) pss_nil)
      (pss_cons (ps_fld (pv 0) (pv 1) rfl)
      (pss_cons (ps_fld (pv 0) (pv 2) rfl)
      (pss_one (ps_fld (pv 0) (pe_op op_add (pe_op op_sub (pv 2) (pv 1)) pe_int) rfl))))), ?_⟩
    fail "z go"
    refine ⟨_, rfl, .int lo, ?_⟩
    fail "z go"
    refine iteF ?_
    fail "z go"
    refine ⟨_, rfl, .int hi, ?_⟩
    fail "z go"
    refine iteF ?_
    fail "z go"
    rw [decide_eq_true h1]
    refine iteT ?_
    fail "z go"
    rw [decide_eq_true h2]
    refine iteF ?_
    fail "z go"
    refine rd_sfldI hp KT.cl KT.n_low (by decide) ?_
    fail "z go"
    have l1 := length_putF "low" (.int lo) []
    refine rd_sfldI upd_same KT.cl KT.n_high (by show _ < 1000; simp only [List.length_nil] at l1; omega) ?_
    fail "z go"
    have l2 := length_putF "high" (.int hi) (putF "low" (.int lo) [])
    refine rd_sfldI upd_same KT.cl KT.n_size (by show _ < 1000; simp only [List.length_nil] at l1; omega) ?_
    exact k _ Kp.refl.put.put.put upd_same
/-- Kind(low, high) where it is called: a new kind, all else as it was -/
theorem rd_Kind {C : Addr} {H : Hp} {E : XK} {lo hi : Int} {R : Addr → Hp → Prop} (h1 : lo ≤ 0) (h2 : 0 ≤ hi) (k : ∀ (a : Addr) (H' : Hp), H a = none → Same H H' → IsKind C H' a lo hi → R a H') :
    ∀ x dx, H x = none → H dx = none → dx ≠ x → spKind C (.ref x :: ([V.int lo, V.int hi] ++ [])) (upd (upd H dx (.own x)) x (.ins C dx [])) (fun v H2 => v = .non ∧ R x H2) E := by
  intro x dx nx nd ne
  refine ⟨x, dx, lo, hi, rfl, h1, h2, upd_same, fun H' kp hx => ⟨rfl, k x H' nx (fun b o e => ?_) ⟨dx, hx⟩⟩⟩
  have n1 : b ≠ x := ne_of_none e nx
  exact kp b o n1 ((upd_ne n1).trans ((upd_ne (ne_of_none e nd)).trans e))
end
/-! ### small data, its text -/
structure Sm (k n : Nat) (d : PyData) : Prop where
  sh : d.showable = true
  nd : d.hasDict = false
  cl : d.canLay0 = true
  ls : d.leavesShort 250 = true
  wt : d.weight ≤ n
  dp : d.depth ≤ k
structure SmAll (k n : Nat) (ds : List PyData) : Prop where
  sh : PyData.showableAll ds = true
  nd : PyData.hasDictAll ds = false
  cl : PyData.canLayAll0 ds = true
  ls : PyData.leavesShortAll 250 ds = true
  wt : PyData.weightAll ds ≤ n
  dp : PyData.depthAll ds ≤ k
theorem sm_none {k : Nat} : Sm k 0 .none := ⟨by simp [PyData.showable], by simp [PyData.hasDict], by simp [PyData.canLay0], by simp [PyData.leavesShort], by simp [PyData.weight], by simp [PyData.depth]⟩
theorem sm_bool {k : Nat} (b : Bool) : Sm k 0 (.bool b) := ⟨by simp [PyData.showable], by simp [PyData.hasDict], by simp [PyData.canLay0], by simp [PyData.leavesShort], by simp [PyData.weight], by simp [PyData.depth]⟩
theorem log_of {i : Int} (h1 : -(2 ^ 200) < i) (h2 : i < 2 ^ 200) : i.natAbs.log2 < 200 := PySem.Flt.log2_lt_of (by decide) (by omega)
theorem sm_int {k : Nat} {i : Int} (h1 : -(2 ^ 200) < i) (h2 : i < 2 ^ 200) : Sm k 201 (.int i) := by
  have l := log_of h1 h2
  have t := int_text_length_le (k := 200) (by decide) l
  refine ⟨by simp only [PyData.showable, decide_eq_true_eq]; omega, by simp [PyData.hasDict], by simp [PyData.canLay0], ?_, ?_, by simp [PyData.depth]⟩
  · simp only [PyData.leavesShort, decide_eq_true_eq]
    show (Str.ofString (toString i)).length ≤ 250
    rw [PySem.ofString_length]
    omega
  · simp only [PyData.weight]
    split <;> omega
theorem sm_nil {k : Nat} : SmAll k 0 [] := ⟨by simp [PyData.showableAll], by simp [PyData.hasDictAll], by simp [PyData.canLayAll0], by simp [PyData.leavesShortAll], by simp [PyData.weightAll], by simp [PyData.depthAll]⟩
theorem sm_cons {k a b : Nat} {d : PyData} {ds : List PyData} (h : Sm k a d) (t : SmAll k b ds) : SmAll k (a + 1 + b) (d :: ds) := by
  refine ⟨by simp [PyData.showableAll, h.sh, t.sh], by simp [PyData.hasDictAll, h.nd, t.nd], by simp [PyData.canLayAll0, h.cl, t.cl], by simp [PyData.leavesShortAll, h.ls, t.ls], ?_, ?_⟩
  · have := h.wt
    have := t.wt
    simp only [PyData.weightAll]
    omega
  · have := h.dp
    have := t.dp
    simp only [PyData.depthAll]
    omega
theorem sm_list {k n : Nat} {ds : List PyData} (t : SmAll k n ds) : Sm (k + 1) n (.list ds) :=
  ⟨by simp [PyData.showable, t.sh], by simp [PyData.hasDict, t.nd], by simp [PyData.canLay0, t.cl], by simp [PyData.leavesShort, t.ls], by simp [PyData.weight, t.wt], by have := t.dp; simp only [PyData.depth]; omega⟩
theorem sm_tup {k n : Nat} {ds : List PyData} (t : SmAll k n ds) : Sm (k + 1) n (.tuple ds) :=
  ⟨by simp [PyData.showable, t.sh], by simp [PyData.hasDict, t.nd], by simp [PyData.canLay0, t.cl], by simp [PyData.leavesShort, t.ls], by simp [PyData.weight, t.wt], by have := t.dp; simp only [PyData.depth]; omega⟩
theorem Sm.text {k n : Nat} {d : PyData} (h : Sm k n d) (hn : n ≤ 50000) : d.shown.length ≤ sizeLine := by
  have e := PyData.shown_le 250 (by decide) d h.ls
  have w := h.wt
  rw [sizeLine_eq]
  omega
theorem Sm.shaped {k n : Nat} {d : PyData} (h : Sm k n d) (hk : k ≤ 60) : SeqAt.shaped d = true := by
  have := h.dp
  unfold SeqAt.shaped
  rw [h.cl, Bool.true_and]
  exact decide_eq_true (by omega)
theorem rd_repr {K : PySem.W.Frag} {H : Hp} {Q : VK} {v : V} {d : PyData} {k n : Nat} (h : Dp K H v d) (s : Sm k n d) (hk : k ≤ 60) (hn : n ≤ 50000) (q : Q (.str d.shown) H) : rReprD K [v] H Q := by
  refine ⟨v, d, rfl, h, s.sh, s.nd, by have := s.dp; omega, s.text hn, fun i e => ?_, q⟩
  subst e
  cases h
  have z := s.sh
  simp only [PyData.showable, decide_eq_true_eq] at z
  exact z
theorem rd_neD {K : PySem.W.Frag} {H : Hp} {Q : VK} {x y : V} {d e : PyData} {k n k' n' : Nat} (h : Dp K H x d) (h' : Dp K H y e) (s : Sm k n d) (s' : Sm k' n' e) (hk : k ≤ 60) (hk' : k' ≤ 60) (q : Q (.bl (!PyData.eqv d e)) H) : rNeD K x y H Q :=
  ⟨d, e, h, h', s.shaped hk, s'.shaped hk', q⟩
theorem rd_eqD {K : PySem.W.Frag} {H : Hp} {Q : VK} {x y : V} {d e : PyData} {k n k' n' : Nat} (h : Dp K H x d) (h' : Dp K H y e) (s : Sm k n d) (s' : Sm k' n' e) (hk : k ≤ 60) (hk' : k' ≤ 60) (q : Q (.bl (PyData.eqv d e)) H) : rEqD K x y H Q :=
  ⟨d, e, h, h', s.shaped hk, s'.shaped hk', q⟩
theorem Sm.up {k n k' n' : Nat} {d : PyData} (h : Sm k n d) (hk : k ≤ k') (hn : n ≤ n') : Sm k' n' d := ⟨h.sh, h.nd, h.cl, h.ls, Nat.le_trans h.wt hn, Nat.le_trans h.dp hk⟩
/-! ### a caught error that is kept behind its suite -/
section
variable {X : Cx} {pins : List (Addr × Obj)} {σ : L2.St} {H : Hp} {s : Shared}
/-- what is kept behind: the context with the error pinned -/
abbrev kept (X : Cx) (a : Addr) (oe : Obj) (pn : List (Addr × Obj)) : Cx := X.tr ((a, oe) :: pn) X.xe
theorem un_kept {a : Addr} {oe : Obj} {pn' : List (Addr × Obj)} (ok : X.Ok) (J : Inv (kept X a oe (X.pn ++ pins)) pn' σ H s) : Inv X pins σ H s where
  ok := ok
  os := J.os
  bare := J.bare
  base := J.base
  loc := J.loc
  cell := J.cell
  free := J.free
  freeC := J.freeC
  pin := fun q hq => J.pin q (List.mem_append.mpr (.inl (List.mem_cons.mpr (.inr hq))))
  hok := J.hok
  len := J.len
theorem kept_of {a : Addr} {oe : Obj} {pn pn' : List (Addr × Obj)} (ok : X.Ok) (J : Inv (X.suite a ((a, oe) :: pn)) pn' σ H s) : Inv (kept X a oe pn) pn' σ H s where
  ok := ok.toTry _ _
  os := J.os
  bare := J.bare
  base := J.base
  loc := J.loc
  cell := J.cell
  free := J.free
  freeC := J.freeC
  pin := J.pin
  hok := J.hok
  len := J.len
theorem sp_kept {a : Addr} {oe : Obj} {D : Ends} {fl : Flow} (ok : X.Ok) (h : SP (kept X a oe (X.pn ++ pins)) [] D fl s) : SP X pins D fl s := by
  match fl, h with
  | .next, ⟨σ', H', J, q⟩ => exact ⟨σ', H', un_kept ok J, q⟩
  | .brk, ⟨σ', H', J, q⟩ => exact ⟨σ', H', un_kept ok J, q⟩
  | .cont, ⟨σ', H', J, q⟩ => exact ⟨σ', H', un_kept ok J, q⟩
  | .ret _, ⟨v, σ', H', J, r, q⟩ => exact ⟨v, σ', H', un_kept ok J, r, q⟩
end
/-- what a try that keeps its error wishes of one that its body raises -/
def wKeep (K : PySem.W.Frag) (c : Value) (i : Nat) (ts tk : Addr → Value → Option Addr → TS) (D : Ends) : WX := fun cls d σ H =>
  PySem.W.exmOne K cls c = some true ∧ ∀ a, H a = none → ts a cls d { nx := fun σ' H' => tk a cls d D (σ'.set i none) H', rt := fun _ _ => False } (σ.set i (some (.ref a))) H
section
variable {X : Cx} {x n : Str} {c : Value} {i : Nat} {body suite rest : List Stmt} {b₀ : Stmt} {np pos pos' : Pos} {tb : WX → TS} {ts tk : Addr → Value → Option Addr → TS} {t0 : TS}
/-- try: body / except x as n: suite, and what stands behind, read in the light of the error that was caught -/
theorem pss_keep (hs : X.stack = X.env :: X.outer) (hf : X.env.frame = some X.env.locals) (hN : X.N.Nodup) (hi : X.N[i]? = some n) (hln : X.env.kindOf n = some .local) (hc : Names X x c)
    (hb : ∀ (W : WX) (pn : List (Addr × Obj)) (xe : Value → Shared → Prop), Takes (X.tr pn xe) W → PSs (X.tr pn xe) body (tb W))
    (hsu : ∀ (a : Addr) (oe : Obj) (cls : Value) (d : Option Addr) (pn : List (Addr × Obj)), Zc cls d oe → (∃ vs, oe.data = .fields vs) → PSs (X.suite a ((a, oe) :: pn)) (b₀ :: suite) (ts a cls d))
    (h0 : PSs X rest t0)
    (hk : ∀ (a : Addr) (oe : Obj) (cls : Value) (d : Option Addr) (pn : List (Addr × Obj)), Zc cls d oe → (∃ vs, oe.data = .fields vs) → PSs (kept X a oe pn) rest (tk a cls d)) :
    PSs X (.Try body [.ExceptHandler (some (.Name x np)) (some n) (b₀ :: suite) pos'] [] [] pos :: rest) (fun D σ H => tb (wKeep X.K c i ts tk D) { D with nx := t0 D } σ H) := by
  constructor
  intro pins s σ H D I h
  have ok := I.ok
  -- either as behind any statement, or with the error kept
  refine wpAny_execs_cons (thn (Q := fun fl s1 => SP X pins { D with nx := t0 D } fl s1 ∨ (fl = .next ∧ ∃ (a : Addr) (oe : Obj) (cls : Value) (d : Option Addr) (σ' : L2.St) (H' : Hp), Zc cls d oe ∧ (∃ vs, oe.data = .fields vs) ∧
    Inv (kept X a oe (X.pn ++ pins)) [] σ' H' s1 ∧ tk a cls d D σ' H')) ?_ fun fl s1 z => ?_)
  · have hfr : X.A.frames = some (X.env :: X.outer) := ok.frames.trans (congrArg some hs)
    refine wpAny_Try_except ?_
    refine wpAny_mono ((hb (wKeep X.K c i ts tk D) (X.pn ++ pins) _ (fun u s' xx => ?_)).run [] s σ H _ (I.toTry _) h) (fun fl s1 z => ?_) (fun e s1 he => he)
    · -- what the body raises is caught here
      obtain ⟨a, B, sI, pins', σ', H', cls, d, eu, J', nb, up, sky, na, os, ag, hyes, hgo⟩ := xx
      subst eu
      have J : Inv X pins σ' H' sI := J'.ofTry ok
      have air : Sky B (X.env :: X.outer) a (Zc cls d) X.env.locals s'.heap := hs ▸ sky
      refine Sky.land Zc.steady hfr hf air fun h1 fly1 up1 => ?_
      have J1 : Inv X pins σ' H' { s' with heap := h1 } := J.landed nb fly1.1 (up.trans up1) os ag
      obtain ⟨o1, v1, at1, z1, f1⟩ := fly1.there
      have off : a ∉ frs (X.env :: X.outer) := fun hm => by
        obtain ⟨_, o', e', no⟩ := fly1.2.2.1.mem hm
        rw [at1] at e'
        cases e'
        exact no _ f1
      have offL : a ≠ X.env.locals := fun z => off (List.mem_filterMap.mpr ⟨X.env, List.mem_cons_self, hf.trans (congrArg some z.symm)⟩)
      have offF : a ∉ X.fs := fun hm => by
        obtain ⟨e, m, q⟩ := List.mem_filterMap.mp hm
        exact off (List.mem_filterMap.mpr ⟨e, List.mem_cons_of_mem _ m, q⟩)
      have S1 := J1.suite at1 f1 na offL offF
      have cl : PySem.W.Looks (model X.prog X.w) h1 (typeOf (.ref a)) cls := fun A Q E s k q => wpAny_typeOf_ref (k _ _ at1) (z1.1.symm ▸ q)
      have fits := PySem.W.exm_one (M := model X.prog X.w) J1.kIn cl hyes
      have named : ∀ {Q : Value → Shared → Prop} {E : Value → Shared → Prop}, Q c { s' with heap := h1 } → wpAny (model X.prog X.w) (X.A.mark (some (.ref a))) (eval (.Name x np) X.env) Q E { s' with heap := h1 } := fun {Q E} q => by
        obtain ⟨g, nodb, m⟩ := hc
        rcases m with m | ⟨m, bt, nn⟩
        · exact ld_glob (X := X.suite a ((a, o1) :: (X.pn ++ pins))) S1 g m q nodb
        · exact ld_blt (X := X.suite a ((a, o1) :: (X.pn ++ pins))) S1 g m bt q nn nodb
      refine wpAny_handleBy_cons (codeAny_handlers_test (named (fits.here ?_))) (fun q => nomatch q)
      refine codeAny_handlers_suite_as (HandSPX.lands_againZ fly1 fun h2 fly2 up2 => ?_)
      obtain ⟨o2, v2, at2, z2, f2⟩ := fly2.there
      have S2 := (J.landed (s' := { s' with heap := h2 }) nb fly2.1 ((up.trans up1).trans up2) os ag).suite at2 f2 na offL offF
      refine store_ok (X := X.suite a ((a, o2) :: (X.pn ++ pins))) (v := .ref a) S2 hN hi (.inl hln) rfl (fun s3 S3 => ?_) (.inr hln)
      refine wpAny_mono ((hsu a o2 cls d (X.pn ++ pins) z2 ⟨_, f2⟩).run [] s3 _ H' _ S3 (hgo a na)) (fun fl s4 z => ?_) (fun _ _ z => False.elim z)
      match fl, z with
      | .next, ⟨σ4, H4, S4, q4⟩ => exact gone_ok (X := kept X a o2 (X.pn ++ pins)) (kept_of ok S4) hN hi hln fun s5 J5 => .inr ⟨rfl, a, o2, cls, d, _, _, z2, ⟨_, f2⟩, J5, q4⟩
      | .brk, ⟨_, _, _, q4⟩ => exact False.elim q4
      | .cont, ⟨_, _, _, q4⟩ => exact False.elim q4
      | .ret _, ⟨_, _, _, _, _, q4⟩ => exact False.elim q4
    · match fl, z with
      | .next, ⟨σ', H', J', q⟩ => exact wpAny_execs_nil (.inl ⟨σ', H', J'.ofTry ok, q⟩)
      | .brk, ⟨σ', H', J', q⟩ => exact .inl ⟨σ', H', J'.ofTry ok, q⟩
      | .cont, ⟨σ', H', J', q⟩ => exact .inl ⟨σ', H', J'.ofTry ok, q⟩
      | .ret _, ⟨v, σ', H', J', r, q⟩ => exact .inl ⟨v, σ', H', J'.ofTry ok, r, q⟩
  · rcases z with z | ⟨rfl, a, oe, cls, d, σ', H', zc, hd, J, q⟩
    · match fl, z with
      | .next, ⟨σ', H', J, q⟩ => exact h0.run pins s1 σ' H' D J q
      | .brk, z => exact z
      | .cont, z => exact z
      | .ret _, z => exact z
    · exact thn ((hk a oe cls d (X.pn ++ pins) zc hd).run [] s1 σ' H' D J q) fun fl s2 z => sp_kept ok z
end
/-- what an own exception class must have, so that isinstance and fields are read of its objects -/
structure ExcK (K : PySem.W.Frag) (C : Addr) : Prop where
  cl : (PySem.W.clsIn K C).isSome = true
  ga : PySem.W.findIn K (.ref C) "__getattribute__" = some (some (.builtin "BaseException.__getattribute__"))
  gg : PySem.W.findIn K (.ref C) "__getattr__" = some none
  su : PySem.W.subIn K (.ref C) (.type "BaseException") = some true
  ha : PySem.W.findIn K (.ref C) "__class__" = some (some (.builtin "object.__class__"))
  hn : PySem.W.specialIn K (.builtin "object.__class__") "__get__" = some (some (.builtin "getset_descriptor.__get__"))
  ht : PySem.W.takesIn K (.builtin "object.__class__") = some true
  hm : PySem.W.mroIn K C (.type "object") = some true
  hd : PySem.W.hasDictIn K C = true
section
variable {X : Cx} {a : Addr} {oe : Obj} {cls : Value} {d : Option Addr}
theorem held_at {pins : List (Addr × Obj)} {σ : L2.St} {H : Hp} {s : Shared} {C dd : Addr} {fs : List (Str × V)} (hp : (a, oe) ∈ X.pn) (hz : Zc cls d oe) (hf : ∃ vs, oe.data = .fields vs) (I : Inv X pins σ H s) (ec : cls = .ref C) (ed : d = some dd) (ea : H dd = some (.xd fs)) :
    ∃ (od : Obj) (mA : Str → Option Value), PySem.W.InstAt s.heap a oe C (some od) ∧ (∀ y, PySem.W.lookIn y od = some (mA y)) ∧ ∀ y, RelO (fs.lookup y) (mA y) := by
  subst ec
  subst ed
  obtain ⟨ha, _⟩ := I.pin (a, oe) (List.mem_append.mpr (.inl hp))
  obtain ⟨vs, hd⟩ := hf
  have z : ObjOk X.prog X.w H s.heap dd (.xd fs) := I.hok dd _ ea
  obtain ⟨mA, hns, hr⟩ := z
  obtain ⟨od, ho, hl⟩ := lookIn_ns hns
  refine ⟨od, mA, ⟨ha, hz.1, ?_, ?_⟩, hl, hr⟩
  · unfold PySem.W.notCls
    rw [hd]
  · rw [hz.2]
    exact ho
/-- isinstance(e, c), e the error that is kept -/
def rIsP (K : PySem.W.Frag) (a : Addr) (cls : Value) (d : Option Addr) : List V → Hp → VK → Prop := fun xs H Q =>
  ∃ (C dd : Addr) (fs : List (Str × V)) (c : V) (cv : Value) (b : Bool), xs = [.ref a, c] ∧ cls = .ref C ∧ ExcK K C ∧ d = some dd ∧ H dd = some (.xd fs) ∧ (∀ u, RelV c u → u = cv) ∧ PySem.W.kitOne K (.ref C) cv = some b ∧ Q (.bl b) H
theorem call_isP (hp : (a, oe) ∈ X.pn) (hz : Zc cls d oe) (hf : ∃ vs, oe.data = .fields vs) : CallR X (.builtin "isinstance") (rIsP X.K a cls d) := by
  intro pins s σ H xs us Q I r h
  obtain ⟨C, dd, fs, c, cv, b, rfl, ec, T, ed, ea, hcv, e, q⟩ := h
  cases r with
  | cons rx rr =>
    cases rr with
    | cons rt rr =>
      cases rr
      cases rx
      have ev := hcv _ rt
      subst ev
      obtain ⟨od, mA, J, _⟩ := held_at hp hz hf I ec ed ea
      exact PySem.W.kia_one (PySem.W.kitx_exc T.cl T.ga T.gg T.su T.ha T.hn T.ht T.hm) I.kIn J e (fun z => nomatch z) fun tk => ⟨.bl b, H, I.kept (t' := tk) fun _ _ z => z, rfl, q⟩
/-- e.f, e the error that is kept -/
def tXfP (K : PySem.W.Frag) (a : Addr) (cls : Value) (d : Option Addr) (f : Str) (te : TE) : TE := fun σ H Q => te σ H fun x H1 => x = .ref a ∧
  ∃ (C dd : Addr) (fs : List (Str × V)) (v : V), cls = .ref C ∧ ExcK K C ∧ PySem.W.findIn K (.ref C) f = some none ∧ d = some dd ∧ H1 dd = some (.xd fs) ∧ fs.lookup f = some v ∧ Q v H1
theorem pe_xfP {e : Expr} {te : TE} {pos : Pos} {n : Str} (hp : (a, oe) ∈ X.pn) (hz : Zc cls d oe) (hf : ∃ vs, oe.data = .fields vs) (he : PE X e te) (hb : attributeBase e n X.env (eval e X.env) = eval e X.env := by rfl) :
    PE X (.Attribute e n pos) (tXfP X.K a cls d n te) := by
  constructor
  intro pins s σ H Q I h
  refine attr_of hb (thn (he.run pins s σ H _ I h) fun u s1 hh => ?_)
  obtain ⟨x, H1, I1, rx, ex, C, dd, fs, v, ec, T, no, ed, ea, l, q⟩ := hh
  subst ex
  obtain rfl : u = Value.ref a := rx
  obtain ⟨od, mA, J, hl, hr⟩ := held_at hp hz hf I1 ec ed ea
  obtain ⟨u, hu, ru⟩ := RelO.some_of (v := v) (o := mA n) (by rw [← l]; exact hr n)
  exact HandSPX.exc_get I1.kIn J T.ga T.gg T.su (PySem.W.findObj_own T.hd no rfl ((hl n).trans (congrArg some hu))) (handed_of ru) ⟨v, H1, I1.tok _, ru, q⟩
end
/-! ### methods that may raise, in a try; in of instances; the text of dicts -/
section
variable {X : Cx} {CX : CXT} {k : Nat} {f C : Addr} {fd : FuncData} {ps : List Str} {sp : Sp} {m : Str} {pos apos : Pos} {e o : Expr} {es : List Expr} {ta : TE} {t : TA}
/-- o.m(e, ..) in a try: what it raises goes to the wish that the slots at hand have -/
def tMethX (C : Addr) (m : Str) (sp : Sp) (E : L2.St → XK) (ta : TE) (t : TA) : TE := fun σ H Q => tMeth C m sp [] (E σ) ta t σ H Q
theorem pe_methX {E : L2.St → XK} {pl : Sem Bool} (he : PE X o ta) (c : Cls X.K C) (hm : Meth X.K C m f) (F : FnOk X.prog X.w X.K X.mg X.base CX k f fd ps sp) (hr : Room k X.A) (hb : Binds X.K fd ps []) (hx : ∀ σ, PassesAt CX X σ (E σ)) (ha : PA X (e :: es) t)
    (hst : starEach (e :: es) X.env = (false, eval e X.env) :: starEach es X.env := by rfl) (hpl : (backTo pos (starEach es X.env)).any (·.1) = false := by rfl)
    (ht : eval (.Call (.Attribute o m apos) (e :: es) [] pos) X.env = (do
      let ov ← eval o X.env
      standAt apos.atName
      let (f, first) ← holding [ov] (getMethod ov m pl)
      callWith pos f first (backTo pos (starEach (e :: es) X.env)) (backToKw pos (keywordEach [] X.env))) := by rfl) :
    PE X (.Call (.Attribute o m apos) (e :: es) [] pos) (tMethX C m sp E ta t) := by
  constructor
  intro pins s σ H Q I h
  refine PySem.W.methodCall_KW (pl := pl) (thn (he.run pins s σ H _ I h) fun u s1 z => ?_) ht
  obtain ⟨x, H1, I1, rx, a, dx, fs, rfl, ea, l, q⟩ := z
  cases rx
  refine getmeth_ok I1 ea c hm l (PySem.W.callWith_K (first := [.ref a]) (h₀ := X.base) I.ok.mod.kin hm.kp (thn (ha.run pos pins s1 σ H1 _ I1 q) fun us s2 z => ?_) hst hpl)
  obtain ⟨vs, H2, I2, r, q2⟩ := z
  rw [List.append_nil] at q2
  exact ⟨I2.kIn, run_fnS (us := .ref a :: us) (vs := .ref a :: vs) F hr hb (hx σ) I2 (.cons rfl r) q2⟩
/-- x in y, y an instance of the class at C with a def for it -/
def rInI (C : Addr) (sp : Sp) (E : XK) (g : Bool → Bool) : R2 := fun x y H Q => ∃ b dy gs, y = .ref b ∧ H b = some (.ins C dy gs) ∧ sp [y, x] H (fun z H' => ∃ c, z = .bl c ∧ Q (.bl (g c)) H') E
theorem op_inI {E : XK} (hs : PySem.W.findIn X.K (.ref C) "__contains__" = some (some (.ref f))) (hf : PySem.W.isFn X.K (.ref f) = true)
    (F : FnOk X.prog X.w X.K X.mg X.base CX k f fd ps sp) (hr : Room k X.A) (hb : Binds X.K fd ps []) (hx : Passes CX X E) : OpR X (compareOp .In) (rInI C sp E id) := by
  intro pins s σ H x y v u Q I rx ry h
  obtain ⟨b, dy, gs, rfl, hb', q⟩ := h
  cases (show u = Value.ref b from ry)
  obtain ⟨mB, O, _⟩ := ins_get I.hok hb'
  obtain ⟨od, J, _⟩ := O.look
  obtain ⟨m, hF⟩ := I.fr
  refine PySem.W.in_K hF I.ok.mod.kin J hs hf ?_
  refine wpAny_mono (run_in (us := [.ref b, v]) (ws := [.ref b, x]) F hr hb I.env0 hx I (.cons rfl (.cons rx .nil)) q) (fun w s' z => ?_) fun _ _ x => x
  obtain ⟨z', H', I', rz, c, ec, qz⟩ := z
  subst ec
  cases (show w = Value.bool c from rz)
  exact wpAny_truthy_bool ⟨.bl c, H', I', rfl, qz⟩
theorem op_notInI {E : XK} (hs : PySem.W.findIn X.K (.ref C) "__contains__" = some (some (.ref f))) (hf : PySem.W.isFn X.K (.ref f) = true)
    (F : FnOk X.prog X.w X.K X.mg X.base CX k f fd ps sp) (hr : Room k X.A) (hb : Binds X.K fd ps []) (hx : Passes CX X E) : OpR X (compareOp .NotIn) (rInI C sp E (!·)) := by
  intro pins s σ H x y v u Q I rx ry h
  obtain ⟨b, dy, gs, rfl, hb', q⟩ := h
  cases (show u = Value.ref b from ry)
  obtain ⟨mB, O, _⟩ := ins_get I.hok hb'
  obtain ⟨od, J, _⟩ := O.look
  obtain ⟨m, hF⟩ := I.fr
  refine PySem.W.notIn_K hF I.ok.mod.kin J hs hf ?_
  refine wpAny_mono (run_in (us := [.ref b, v]) (ws := [.ref b, x]) F hr hb I.env0 hx I (.cons rfl (.cons rx .nil)) q) (fun w s' z => ?_) fun _ _ x => x
  obtain ⟨z', H', I', rz, c, ec, qz⟩ := z
  subst ec
  cases (show w = Value.bool c from rz)
  exact wpAny_truthy_bool ⟨.bl (!c), H', I', rfl, qz⟩
end
/-- data with dicts of small keys: what a value is, at any depth -/
inductive Dq (K : PySem.W.Frag) (H : Hp) : V → PyData → Prop
  | dp {v : V} {d : PyData} (h : Dp K H v d) : Dq K H v d
  | d0 {a : Addr} (h : H a = some (.dK [])) : Dq K H (.ref a) (.dict [])
  | d1 {a : Addr} {i j : Int} (h : H a = some (.dK [(.inl i, .int j)])) : Dq K H (.ref a) (.dict [(.int i, .int j)])
def rReprQ (K : PySem.W.Frag) : List V → Hp → VK → Prop := fun xs H Q =>
  ∃ (x : V) (d : PyData), xs = [x] ∧ Dq K H x d ∧ d.showable = true ∧ (d.hasDict = true → ∀ v, ¬ Dp K H v d) ∧
    d.depth ≤ 64 ∧ d.shown.length ≤ sizeLine ∧ (∀ i, x = .int i → i.natAbs.log2 < 1920) ∧ Q (.str d.shown) H
theorem Dq.cases2 {K : PySem.W.Frag} {H : Hp} {v : V} {d : PyData} (h : Dq K H v d) (n : d.hasDict = true → ∀ v, ¬ Dp K H v d) : (Dp K H v d ∧ d.hasDict = false) ∨ ∃ a kvs ds, v = .ref a ∧ d = .dict ds ∧ H a = some (.dK kvs) ∧
    ((kvs = [] ∧ ds = []) ∨ ∃ i j : Int, kvs = [(.inl i, .int j)] ∧ ds = [(.int i, .int j)]) := by
  cases h with
  | dp h =>
    refine .inl ⟨h, ?_⟩
    cases e : d.hasDict with
    | false => rfl
    | true => exact absurd h (n e _)
  | d0 h => exact .inr ⟨_, _, _, rfl, rfl, h, .inl ⟨rfl, rfl⟩⟩
  | d1 h => exact .inr ⟨_, _, _, rfl, rfl, h, .inr ⟨_, _, rfl, rfl⟩⟩
theorem call_reprQ {X : Cx} (hg : Calm X.A) (hu : X.A.units + 70 < cLine) : CallR X (.builtin "repr") (rReprQ X.K) := by
  intro pins s σ H xs us Q I r h
  obtain ⟨x, d, rfl, hd, hs, hn, hdep, hsz, hi, q⟩ := h
  rcases hd.cases2 hn with ⟨hd, nd⟩ | ⟨a, kvs, ds, rfl, rfl, ea, hk⟩
  · exact call_reprD hg hu pins s σ H _ us Q I r ⟨x, d, rfl, hd, hs, nd, hdep, hsz, hi, q⟩
  · obtain ⟨u, rfl, rx⟩ := vals1 r
    cases rx
    have z : ObjOk X.prog X.w H s.heap a (.dK kvs) := I.hok a _ ea
    obtain ⟨_, nsm, vs, hkv, o, es, ep, ho, ⟨hc, _, _⟩, hdat, _, hp, _⟩ := z
    have rd : Reads s.heap (.ref a) (.dict ds) (a :: ([] : List Addr) ++ []) := by
      rcases hk with ⟨rfl, rfl⟩ | ⟨i, j, rfl, rfl⟩
      · cases hkv
        have e0 : es.toList = [] := by
          cases hl : es.toList with
          | nil => rfl
          | cons _ _ =>
            rw [hl] at hp
            cases hp
        refine Reads.dict ho hc hdat ?_ ?_
        · rw [e0]
          exact .nil
        · rw [e0]
          exact .nil
      · obtain ⟨kq, vq, rfl, ek, rv⟩ : ∃ kq vq, vs = [(kq, vq)] ∧ (Sum.inl i : Key) = kq ∧ RelV (.int j) vq := by
          match vs, hkv with
          | [(kq, vq)], .cons h1 .nil => exact ⟨kq, vq, rfl, h1.1, h1.2⟩
        · cases hl : es.toList with
          | nil =>
            rw [hl] at hp
            cases hp
          | cons e1 r1 =>
            rw [hl] at hp
            cases hp with
            | cons hk1 hv1 hr1 =>
              cases hr1
              subst ek
              obtain ⟨t, ev⟩ := rv
              have ev' : e1.val = .int j t := hv1.trans ev
              rcases keyIs_shape (show keyIs (.inl i) e1.key = true from hk1) with ⟨i', t', e2, e3⟩ | ⟨x', t', e2, e3⟩
              · have ei : i = i' := Sum.inl.inj e2
                subst ei
                refine Reads.dict (as := [] ++ []) (bs := [] ++ []) ho hc hdat ?_ ?_
                · rw [hl]
                  show ReadsAll s.heap [e1.key] [PyData.int i] _
                  rw [e3]
                  exact .cons (.int i t') .nil
                · rw [hl]
                  show ReadsAll s.heap [e1.val] [PyData.int j] _
                  rw [ev']
                  exact .cons (.int j t) .nil
              · cases e2
    refine repr_of_reads' rd hs (fun _ hm => ?_) hg (by omega) (fun _ _ e => e) (fun h' u tk hk => ?_) hsz
    · rw [List.append_nil] at hm
      have e := List.mem_singleton.mp hm
      rw [← e] at nsm
      simp at nsm
    · exact ⟨.str _, H, I.kept (t' := tk) hk, ⟨_, rfl⟩, q⟩
theorem rd_reprQ {K : PySem.W.Frag} {H : Hp} {Q : VK} {v : V} {d : PyData} {k n : Nat} (h : Dp K H v d) (s : Sm k n d) (hk : k ≤ 60) (hn : n ≤ 50000) (q : Q (.str d.shown) H) : rReprQ K [v] H Q := by
  refine ⟨v, d, rfl, .dp h, s.sh, fun z => ?_, by have := s.dp; omega, s.text hn, fun i e => ?_, q⟩
  · rw [s.nd] at z
    cases z
  · subst e
    cases h
    have z := s.sh
    simp only [PyData.showable, decide_eq_true_eq] at z
    exact z
theorem rd_reprQ0 {K : PySem.W.Frag} {H : Hp} {Q : VK} {a : Addr} (h : H a = some (.dK [])) (q : Q (.str (PyData.shown (.dict []))) H) : rReprQ K [.ref a] H Q := by
  refine ⟨_, _, rfl, .d0 h, by simp [PyData.showable, PyData.showableKv], (fun _ v z => nomatch z), ?_, ?_, fun i e => V.noConfusion e, q⟩
  · simp [PyData.depth, PyData.depthKv]
  · exact few (by decide)
/-! ### errors with one value -/
theorem kit_sub {K : PySem.W.Frag} {C : Addr} {n : String} (hm : PySem.W.kitMeta n = true) (h : PySem.W.subIn K (.ref C) (.type n) = some true) : PySem.W.kitOne K (.ref C) (.type n) = some true := by
  unfold PySem.W.kitOne PySem.W.kitCls
  rw [if_neg (by simp)]
  first
    | (rw [if_pos hm]; exact h)
    | (simp only [hm, if_true]; exact h)
structure ErrT (K : PySem.W.Frag) (mg : Str → Option Value) (CW C : Addr) (nm : Str) : Prop where
  ox : OexC K C
  ek : ExcK K C
  nv : PySem.W.findIn K (.ref C) "value" = some none
  me : PySem.W.exmOne K (.ref C) (.ref CW) = some true
  kc : PySem.W.kitOne K (.ref C) (.ref C) = some true
  kv : PySem.W.kitOne K (.ref C) (.type "ValueError") = some true
  g : mg nm = some (.ref C)
def spBad (C : Addr) : Sp := fun vs H Q _ => ∃ (a : Addr) (v : V), vs = [.ref a, v] ∧ H a = some (exo a C none) ∧ ∀ dx, H dx = none → dx ≠ a → Q .non (upd (upd H dx (exd dx [("value", v)])) a (exo a C (some dx)))
theorem rd_bad {C : Addr} {H : Hp} {Q : XK} {E : XK} {v : V} (k : ∀ d H', H d = none → Same H H' → H' d = some (.xd [("value", v)]) → Q (.ref C) (some d) H') :
    [v].length ≤ 1000 ∧ ∀ a, H a = none → spBad C (.ref a :: ([v] ++ [])) (upd H a (exo a C none)) (fun u H2 => u = .non ∧ ∃ (d : Addr) (fs : List (Str × V)), H2 a = some (exo a C (some d)) ∧ H2 d = some (exd d fs) ∧ H d = none ∧ Q (.ref C) (some d) (upd (del H2 a) d (.xd fs))) E := by
  refine ⟨Nat.le_of_ble_eq_true rfl, fun a na => ⟨a, v, rfl, upd_same, fun dx nd ne => ?_⟩⟩
  have nd' : H dx = none := (upd_ne ne).symm.trans nd
  refine ⟨rfl, dx, _, upd_same, (upd_ne ne).trans upd_same, nd', k dx _ nd' (fun b o e => ?_) upd_same⟩
  have n1 : b ≠ a := ne_of_none e na
  have n2 : b ≠ dx := ne_of_none e nd'
  rw [upd_ne n2, del_ne n1, upd_ne n1, upd_ne n2, upd_ne n1]
  exact e
theorem rd_ost {K : PySem.W.Frag} {a C : Addr} {f : Str} {y : V} {H : Hp} {R : Hp → Prop} (T : OexC K C) (no : PySem.W.findIn K (.ref C) f = some none) (e : H a = some (exo a C none)) (k : ∀ dx, H dx = none → dx ≠ a → R (upd (upd H dx (exd dx [(f, y)])) a (exo a C (some dx)))) :
    ∃ a' C' : Addr, V.ref a = .ref a' ∧ OexC K C' ∧ PySem.W.findIn K (.ref C') f = some none ∧ ((H a' = some (exo a' C' none) ∧ ∀ dx, H dx = none → dx ≠ a' → R (upd (upd H dx (exd dx [(f, y)])) a' (exo a' C' (some dx)))) ∨
      ∃ (dx : Addr) (fs : List (Str × V)), H a' = some (exo a' C' (some dx)) ∧ H dx = some (exd dx fs) ∧ fs.length ≤ 900 ∧ R (upd H dx (exd dx ((f, y) :: fs)))) := ⟨a, C, rfl, T, no, .inl ⟨e, k⟩⟩
theorem pss_none {X : Cx} {l : List Stmt} : PSs X l (fun _ _ _ => False) := ⟨fun _ _ _ _ _ _ h => h.elim⟩
section
variable {X : Cx} {a : Addr} {oe : Obj} {cls : Value} {d : Option Addr} {pn : List (Addr × Obj)}
theorem call_isK (hz : Zc cls d oe) (hf : ∃ vs, oe.data = .fields vs) : CallR (kept X a oe pn) (.builtin "isinstance") (rIsP X.K a cls d) := call_isP (X := kept X a oe pn) List.mem_cons_self hz hf
theorem call_reprK (hg : Calm X.A) (hu : X.A.units + 70 < cLine) : CallR (kept X a oe pn) (.builtin "repr") (rReprQ X.K) := call_reprQ (X := kept X a oe pn) hg hu
theorem pe_xfK {e : Expr} {te : TE} {pos : Pos} {n : Str} (hz : Zc cls d oe) (hf : ∃ vs, oe.data = .fields vs) (he : PE (kept X a oe pn) e te) (hb : attributeBase e n X.env (eval e X.env) = eval e X.env := by rfl) :
    PE (kept X a oe pn) (.Attribute e n pos) (tXfP X.K a cls d n te) := pe_xfP (X := kept X a oe pn) List.mem_cons_self hz hf he hb
end
/-! ### own == with any value; != likewise; str of an instance; making that may raise -/
section
variable {prog : Program} {w : World} {A : Around} {E : Value → Shared → Prop} {s : Shared} {K : PySem.W.Frag} {x C f : Addr} {ox : Obj} {od : Option Obj} {b tb : Value}
theorem ne_KA {L : Addr} {h₀ : Heap} {m : Str → Option Value} {Q : Value → Shared → Prop} (hu : A.units + 1 < cLine) (F0 : PyProof.Rows.Fr h₀ L s.heap m) (X₀ : K.In h₀) (I : PySem.W.InstAt s.heap x ox C od) (hb : PySem.W.Looks (model prog w) s.heap (typeOf b) tb) (hnf : PySem.W.notFirst K C tb = true)
    (hm : PySem.W.mroIn K C (.type "object") = some true) (hn : PySem.W.findIn K (.ref C) "__ne__" = some (some (.builtin "object.__ne__"))) (hs : PySem.W.findIn K (.ref C) "__eq__" = some (some (.ref f))) (hf : PySem.W.isFn K (.ref f) = true)
    (h : wpAny (model prog w) A.in1 (call (.ref f) [.ref x, b]) (fun v s' => ∃ c, v = .bool c ∧ Q (.bool (!c)) s') E s) : wpAny (model prog w) A (richCompare .NotEq (.ref x) b) Q E s := by
  have X := X₀.keeps F0.keep
  have one : wpAny (model prog w) A (tryCompare (.ref x) "__ne__" b) (fun r s' => ∃ v, r = some v ∧ Q v s') E s := by
    unfold tryCompare
    refine wpAny_bind (ifBound_ne X I hn (wpAny_call (codeAny_call_builtin F.cmp_object.ne.plain F.cmpEntry_ne (PySem.W.check_slot F.cmpKind_ne F.cmpSplit_ne (I.type.andThen (PySem.W.looks_mroIn X hm)) (F.cmpArgs_ne _ _)
      (entry_ne (A := A.in1) hu X I hs hf (wpAny_mono h (fun v s' hv => ?_) fun _ _ e => e))))))
    obtain ⟨c, rfl, hq⟩ := hv
    first
      | exact ⟨c, rfl, wpAny_pure ⟨_, rfl, hq⟩⟩
      | exact ⟨c, rfl, _, rfl, hq⟩
  have fin : wpAny (model prog w) A (tryCompare (.ref x) "__ne__" b) (fun r s' => ∃ v, r = some v ∧ Q v s') E s := one
  simp only [richCompare, cmpInfo_NotEq, oneThing_ref]
  refine wpAny_holding (wpAny_bind (wpAny_cRoomFor (Nat.lt_of_succ_lt hu) ?_))
  refine wpAny_bind (I.type.here (wpAny_bind (hb.here ?_)))
  by_cases q : (Value.ref C != tb) = true
  · have e : PySem.W.subIn K tb (.ref C) = some false := by
      rcases Bool.or_eq_true_iff.mp hnf with e | e
      · rw [beq_iff_eq.mp e] at q
        simp at q
      · exact beq_iff_eq.mp e
    rw [if_pos q]
    refine wpAny_bind ((PySem.W.looks_subIn X e).here ?_)
    simp only [Bool.false_eq_true, if_false]
    refine wpAny_bind (wpAny_mono fin (fun r s' z => ?_) fun _ _ e => e)
    obtain ⟨v, rfl, hq⟩ := z
    exact wpAny_pure hq
  · rw [if_neg q]
    refine wpAny_bind (wpAny_pure ?_)
    simp only [Bool.false_eq_true, if_false]
    refine wpAny_bind (wpAny_mono fin (fun r s' z => ?_) fun _ _ e => e)
    obtain ⟨v, rfl, hq⟩ := z
    exact wpAny_pure hq
end
section
variable {X : Cx} {CX : CXT} {C g : Addr} {fd : FuncData} {ps : List Str} {k : Nat} {sp : Sp} {E : XK} {e : Expr} {es : List Expr} {t : TA} {x : Str} {p pos : Pos}
/-- x == y: x an instance of the class at C, whose def for it is at g; y of any type that does not go first -/
def rOwnA (K : PySem.W.Frag) (C : Addr) (sp : Sp) (E : XK) : R2 := fun x y H Q => ∃ a dx fs ty, x = .ref a ∧ H a = some (.ins C dx fs) ∧ TyX K H y ty ∧ PySem.W.notFirst K C ty = true ∧ sp [x, y] H Q E
theorem op_eqA {K0 : PySem.W.Frag} (hK : X.K = K0) (hs : PySem.W.findIn X.K (.ref C) "__eq__" = some (some (.ref g))) (hf : PySem.W.isFn X.K (.ref g) = true)
    (F : FnOk X.prog X.w X.K X.mg X.base CX k g fd ps sp) (hr : Room k X.A) (hb : Binds X.K fd ps []) (hx : Passes CX X E) : OpR X (compareOp .Eq) (rOwnA K0 C sp E) := by
  subst hK
  intro pins s σ H x y v u Q I rx ry h
  obtain ⟨a, dx, fs, ty, rfl, ha, hty, hnf, q⟩ := h
  cases (show v = Value.ref a from rx)
  obtain ⟨mA, O, _⟩ := ins_get I.hok ha
  obtain ⟨od, J, _⟩ := O.look
  obtain ⟨R, kx, kr, _⟩ := kit_of I ry hty
  obtain ⟨m, hF⟩ := I.fr
  show wpAny _ _ (richCompare .Eq (.ref a) u) _ _ s
  refine PySem.W.cmp_K (op := .Eq) (tb := ty) hr.units0 hF I.ok.mod.kin J (kx.ty _ _ I.kIn kr) hnf hs hf ?_
  refine wpAny_mono (run_in (us := [.ref a, u]) (ws := [.ref a, y]) F hr hb I.env0 hx I (.cons rfl (.cons ry .nil)) q) (fun w s' z => ?_) fun _ _ x => x
  obtain ⟨z', H', I', rz, qz⟩ := z
  exact SlX.cmpback rz ⟨z', H', I', rz, qz⟩
/-- x != y by the own == -/
def rNeA (K : PySem.W.Frag) (C : Addr) (sp : Sp) (E : XK) : R2 := fun x y H Q => ∃ a dx fs ty, x = .ref a ∧ H a = some (.ins C dx fs) ∧ TyX K H y ty ∧ PySem.W.notFirst K C ty = true ∧ sp [x, y] H (fun z H' => ∃ c, z = .bl c ∧ Q (.bl (!c)) H') E
theorem op_neA {K0 : PySem.W.Frag} (hK : X.K = K0) (hm : PySem.W.mroIn X.K C (.type "object") = some true) (hn : PySem.W.findIn X.K (.ref C) "__ne__" = some (some (.builtin "object.__ne__"))) (hs : PySem.W.findIn X.K (.ref C) "__eq__" = some (some (.ref g))) (hf : PySem.W.isFn X.K (.ref g) = true)
    (F : FnOk X.prog X.w X.K X.mg X.base CX k g fd ps sp) (hr : Room (k + 1) X.A) (hb : Binds X.K fd ps []) (hx : Passes CX X E) (hu : X.A.units + 1 < cLine) : OpR X (compareOp .NotEq) (rNeA K0 C sp E) := by
  subst hK
  intro pins s σ H x y v u Q I rx ry h
  obtain ⟨a, dx, fs, ty, rfl, ha, hty, hnf, q⟩ := h
  cases (show v = Value.ref a from rx)
  obtain ⟨mA, O, _⟩ := ins_get I.hok ha
  obtain ⟨od, J, _⟩ := O.look
  obtain ⟨R, kx, kr, _⟩ := kit_of I ry hty
  obtain ⟨m, hF⟩ := I.fr
  show wpAny _ _ (richCompare .NotEq (.ref a) u) _ _ s
  refine ne_KA (tb := ty) hu hF I.ok.mod.kin J (kx.ty _ _ I.kIn kr) hnf hm hn hs hf ?_
  refine wpAny_mono (run_in (us := [.ref a, u]) (ws := [.ref a, y]) F hr.in1 hb I.env0.in1 hx I (.cons rfl (.cons ry .nil)) q) (fun w s' z => ?_) fun _ _ x => x
  obtain ⟨z', H', I', rz, c, ec, qz⟩ := z
  subst ec
  cases (show w = Value.bool c from rz)
  exact ⟨c, rfl, .bl (!c), H', I', rfl, qz⟩
/-- str(x), x an instance whose class has a def for it -/
def rStrI (C : Addr) (sp : Sp) (E : XK) : List V → Hp → VK → Prop := fun xs H Q => ∃ a dx fs, xs = [.ref a] ∧ H a = some (.ins C dx fs) ∧ sp [.ref a] H (fun z H' => ∃ t, z = .str t ∧ Q (.str t) H') E
theorem call_strI (hs : PySem.W.findIn X.K (.ref C) "__str__" = some (some (.ref g))) (hf : PySem.W.isFn X.K (.ref g) = true)
    (F : FnOk X.prog X.w X.K X.mg X.base CX k g fd ps sp) (hr : Room (k + 2) X.A) (hb : Binds X.K fd ps []) (hx : Passes CX X E) (hu : X.A.units + 70 < cLine) : CallR X (.type "str") (rStrI C sp E) := by
  intro pins s σ H xs us Q I r h
  obtain ⟨a, dx, fs, rfl, ha, q⟩ := h
  obtain ⟨u, rfl, rx⟩ := vals1 r
  cases rx
  obtain ⟨mA, O, _⟩ := ins_get I.hok ha
  obtain ⟨od, J, _⟩ := O.look
  refine PySem.W.kso_call (by show X.A.units + 1 + 1 < cLine; omega) I.kIn J hs hf ?_
  refine wpAny_mono (run_in (us := [.ref a]) (ws := [.ref a]) F hr.in1.in1 hb I.env0.in1.in1 hx I (.cons rfl .nil) q) (fun w s' z => ?_) fun _ _ x => x
  obtain ⟨z', H', I', rz, t, et, qz⟩ := z
  subst et
  obtain ⟨tk, rfl⟩ := rz
  exact ⟨.str t, H', I', ⟨_, rfl⟩, qz⟩
/-- C(e, ..) in a try: what it raises goes to the wish that the slots at hand have -/
def tMakeX (C : Addr) (sp : Sp) (E : L2.St → XK) (t : TA) : TE := fun σ H Q => tMake C sp [] (E σ) t σ H Q
theorem pe_makeX {f : Addr} {E : L2.St → XK} (M : Mk X.K C f) (F : FnOk X.prog X.w X.K X.mg X.base CX k f fd ps sp) (hr : Room (k + 1) X.A) (hg : Gl X x) (hm : X.mg x = some (.ref C)) (hb : Binds X.K fd ps []) (hx : ∀ σ, PassesAt CX X σ (E σ))
    (ha : PA X (e :: es) t) (hdb : (x == ("__debug__" : Str)) = false := by decide) (he : starEach (e :: es) X.env = (false, eval e X.env) :: starEach es X.env := by rfl) (hpl : (backTo pos (starEach es X.env)).any (·.1) = false := by rfl) :
    PE X (.Call (.Name x p) (e :: es) [] pos) (tMakeX C sp E t) := by
  constructor
  intro pins s σ H Q I h
  refine wpAny_Call_Name_kw (ld_glob I hg hm (PySem.W.callWith_K (h₀ := X.base) I.ok.mod.kin M.kp (thn (ha.run pos pins s σ H _ I h) fun us s1 z => ?_) he hpl) hdb)
  obtain ⟨vs, H1, J, r, q0⟩ := z
  have q : ∀ x dx, H1 x = none → H1 dx = none → dx ≠ x → sp (.ref x :: (vs ++ [])) (upd (upd H1 dx (.own x)) x (.ins C dx [])) (fun v H2 => v = .non ∧ Q (.ref x) H2) (E σ) := q0
  refine ⟨J.kIn, ?_⟩
  have hq := q (s1.heap.objs.size + 1) s1.heap.objs.size (J.hok.fresh (Nat.le_succ _)) (J.hok.fresh (Nat.le_refl _)) (Nat.ne_of_lt (Nat.lt_succ_self _))
  have I2 := Inv.made (C := C) J
  have r2 : Vals (V.ref (s1.heap.objs.size + 1) :: (vs ++ [])) (Value.ref (s1.heap.objs.size + 1) :: (us ++ [])) := .cons rfl (r.append .nil)
  have hl : (Value.ref (s1.heap.objs.size + 1) :: us ++ []).length = ps.length := r2.length.symm.trans (F.len _ _ _ _ hq)
  refine wpAny_call (make_map (f := f) J.kIn M.makes M.init (beq_iff_eq.mp M.fn) (codeAny_mono (F.run _ X.stack _ _ ⟨Value.ref (s1.heap.objs.size + 1) :: us, []⟩ (Value.ref (s1.heap.objs.size + 1) :: (us ++ [])) _ _ (E σ) (hr.make C us [])
    (I2.env0.make C us []) (by have z := hb _ (Value.ref (s1.heap.objs.size + 1) :: us) I2.kIn hl; rw [List.append_nil] at z ⊢; exact z) r2 hq) fun r s' z => ?_))
  match r, z with
  | .error e, z => exact hx σ pins _ _ e s' I2 z
  | .ok (.ret _), z =>
    obtain ⟨v, H', I3, rv, ev, q3⟩ := I2.after z
    subst ev
    exact ⟨rv, ⟨V.ref (s1.heap.objs.size + 1), H', I3, rfl, q3⟩⟩
  | .ok .next, z => exact z.elim
  | .ok .brk, z => exact z.elim
  | .ok .cont, z => exact z.elim
end
/-! ### errors with two values -/
structure ErrT2 (K : PySem.W.Frag) (mg : Str → Option Value) (CW C : Addr) (nm f1 f2 : Str) : Prop where
  ox : OexC K C
  ek : ExcK K C
  n1 : PySem.W.findIn K (.ref C) f1 = some none
  n2 : PySem.W.findIn K (.ref C) f2 = some none
  me : PySem.W.exmOne K (.ref C) (.ref CW) = some true
  kc : PySem.W.kitOne K (.ref C) (.ref C) = some true
  kv : PySem.W.kitOne K (.ref C) (.type "ValueError") = some true
  g : mg nm = some (.ref C)
def spBad2 (C : Addr) (f1 f2 : Str) : Sp := fun vs H Q _ => ∃ (a : Addr) (v w : V), vs = [.ref a, v, w] ∧ H a = some (exo a C none) ∧ ∀ dx, H dx = none → dx ≠ a → Q .non (upd (upd (upd H dx (exd dx [(f1, v)])) a (exo a C (some dx))) dx (exd dx [(f2, w), (f1, v)]))
theorem rd_bad2 {C : Addr} {f1 f2 : Str} {H : Hp} {Q : XK} {E : XK} {v w : V} (k : ∀ d H', H d = none → Same H H' → H' d = some (.xd [(f2, w), (f1, v)]) → Q (.ref C) (some d) H') :
    [v, w].length ≤ 1000 ∧ ∀ a, H a = none → spBad2 C f1 f2 (.ref a :: ([v, w] ++ [])) (upd H a (exo a C none)) (fun u H2 => u = .non ∧ ∃ (d : Addr) (fs : List (Str × V)), H2 a = some (exo a C (some d)) ∧ H2 d = some (exd d fs) ∧ H d = none ∧ Q (.ref C) (some d) (upd (del H2 a) d (.xd fs))) E := by
  refine ⟨Nat.le_of_ble_eq_true rfl, fun a na => ⟨a, v, w, rfl, upd_same, fun dx nd ne => ?_⟩⟩
  have nd' : H dx = none := (upd_ne ne).symm.trans nd
  refine ⟨rfl, dx, _, (upd_ne ne.symm).trans upd_same, upd_same, nd', k dx _ nd' (fun b o e => ?_) upd_same⟩
  have n1 : b ≠ a := ne_of_none e na
  have n2 : b ≠ dx := ne_of_none e nd'
  rw [upd_ne n2, del_ne n1, upd_ne n2, upd_ne n1, upd_ne n2, upd_ne n1]
  exact e
theorem rd_ost2 {K : PySem.W.Frag} {a C dx : Addr} {f : Str} {y : V} {H : Hp} {R : Hp → Prop} {fs : List (Str × V)} (T : OexC K C) (no : PySem.W.findIn K (.ref C) f = some none) (e : H a = some (exo a C (some dx))) (ed : H dx = some (exd dx fs)) (hl : fs.length ≤ 900) (k : R (upd H dx (exd dx ((f, y) :: fs)))) :
    ∃ a' C' : Addr, V.ref a = .ref a' ∧ OexC K C' ∧ PySem.W.findIn K (.ref C') f = some none ∧ ((H a' = some (exo a' C' none) ∧ ∀ dx, H dx = none → dx ≠ a' → R (upd (upd H dx (exd dx [(f, y)])) a' (exo a' C' (some dx)))) ∨
      ∃ (dx : Addr) (fs : List (Str × V)), H a' = some (exo a' C' (some dx)) ∧ H dx = some (exd dx fs) ∧ fs.length ≤ 900 ∧ R (upd H dx (exd dx ((f, y) :: fs)))) := ⟨a, C, rfl, T, no, .inr ⟨dx, fs, e, ed, hl, k⟩⟩
/-! ### data with dicts within, at any depth -/
mutual
inductive Dz (H : Hp) : V → PyData → Prop
  | non : Dz H .non .none
  | bl (b : Bool) : Dz H (.bl b) (.bool b)
  | int (i : Int) : Dz H (.int i) (.int i)
  | str (x : Str) : Dz H (.str x) (.str x)
  | lst {a : Addr} {xs : List V} {ds : List PyData} : a ≠ sysModules → H a = some (.lst xs) → DzAll H xs ds → Dz H (.ref a) (.list ds)
  | tup {a : Addr} {xs : List V} {ds : List PyData} : H a = some (.tup xs) → DzAll H xs ds → Dz H (.ref a) (.tuple ds)
  | d0 {a : Addr} : H a = some (.dK []) → Dz H (.ref a) (.dict [])
  | d1 {a : Addr} {i j : Int} : H a = some (.dK [(.inl i, .int j)]) → Dz H (.ref a) (.dict [(.int i, .int j)])
inductive DzAll (H : Hp) : List V → List PyData → Prop
  | nil : DzAll H [] []
  | cons {v : V} {vs : List V} {d : PyData} {ds : List PyData} : Dz H v d → DzAll H vs ds → DzAll H (v :: vs) (d :: ds)
end
section
variable {X : Cx} {pins : List (Addr × Obj)} {σ : L2.St} {H : Hp} {s : Shared}
theorem d_reads {a : Addr} {kvs : List (Key × V)} {ds : List (PyData × PyData)} (I : Inv X pins σ H s) (ea : H a = some (.dK kvs)) (hk : (kvs = [] ∧ ds = []) ∨ ∃ i j : Int, kvs = [(.inl i, .int j)] ∧ ds = [(.int i, .int j)]) :
    Reads s.heap (.ref a) (.dict ds) (a :: ([] : List Addr) ++ []) ∧ sysModules ∉ (a :: ([] : List Addr) ++ []) := by
  have z : ObjOk X.prog X.w H s.heap a (.dK kvs) := I.hok a _ ea
  obtain ⟨_, nsm, vs, hkv, o, es, ep, ho, ⟨hc, _, _⟩, hdat, _, hp, _⟩ := z
  have rd : Reads s.heap (.ref a) (.dict ds) (a :: ([] : List Addr) ++ []) := by
    rcases hk with ⟨rfl, rfl⟩ | ⟨i, j, rfl, rfl⟩
    · cases hkv
      have e0 : es.toList = [] := by
        cases hl : es.toList with
        | nil => rfl
        | cons _ _ =>
          rw [hl] at hp
          cases hp
      refine Reads.dict ho hc hdat ?_ ?_
      · rw [e0]
        exact .nil
      · rw [e0]
        exact .nil
    · obtain ⟨kq, vq, rfl, ek, rv⟩ : ∃ kq vq, vs = [(kq, vq)] ∧ (Sum.inl i : Key) = kq ∧ RelV (.int j) vq := by
        match vs, hkv with
        | [(kq, vq)], .cons h1 .nil => exact ⟨kq, vq, rfl, h1.1, h1.2⟩
      · cases hl : es.toList with
        | nil =>
          rw [hl] at hp
          cases hp
        | cons e1 r1 =>
          rw [hl] at hp
          cases hp with
          | cons hk1 hv1 hr1 =>
            cases hr1
            subst ek
            obtain ⟨t, ev⟩ := rv
            have ev' : e1.val = .int j t := hv1.trans ev
            rcases keyIs_shape (show keyIs (.inl i) e1.key = true from hk1) with ⟨i', t', e2, e3⟩ | ⟨x', t', e2, e3⟩
            · have ei : i = i' := Sum.inl.inj e2
              subst ei
              refine Reads.dict (as := [] ++ []) (bs := [] ++ []) ho hc hdat ?_ ?_
              · rw [hl]
                show ReadsAll s.heap [e1.key] [PyData.int i] _
                rw [e3]
                exact .cons (.int i t') .nil
              · rw [hl]
                show ReadsAll s.heap [e1.val] [PyData.int j] _
                rw [ev']
                exact .cons (.int j t) .nil
            · cases e2
  refine ⟨rd, fun hm => ?_⟩
  rw [List.append_nil] at hm
  have e := List.mem_singleton.mp hm
  rw [← e] at nsm
  simp at nsm
theorem no_app {a : Addr} {l m : List Addr} (h1 : a ∉ l) (h2 : a ∉ m) : a ∉ l ++ m := fun h => (List.mem_append.mp h).elim h1 h2
mutual
theorem Dz.reads (I : Inv X pins σ H s) : ∀ {v : V} {d : PyData} {u : Value}, Dz H v d → RelV v u → ∃ as, Reads s.heap u d as ∧ sysModules ∉ as
  | _, _, _, .non, r => by
    cases r
    exact ⟨_, .none, List.not_mem_nil⟩
  | _, _, _, .bl b, r => by
    cases r
    exact ⟨_, .bool b, List.not_mem_nil⟩
  | _, _, _, .int i, r => by
    obtain ⟨t, rfl⟩ := r
    exact ⟨_, .int i t, List.not_mem_nil⟩
  | _, _, _, .str x, r => by
    obtain ⟨t, rfl⟩ := r
    exact ⟨_, .str x t, List.not_mem_nil⟩
  | _, _, _, .lst (a := a) (xs := xs) na ha hd, r => by
    cases r
    have z : ObjOk X.prog X.w H s.heap a (.lst xs) := I.hok a _ ha
    obtain ⟨_, its, n, rv, e⟩ := z
    obtain ⟨as, q, no⟩ := DzAll.reads I hd rv
    exact ⟨_, .list e rfl rfl q, fun h => (List.mem_cons.mp h).elim (fun e => na e.symm) no⟩
  | _, _, _, .tup (a := a) (xs := xs) ha hd, r => by
    cases r
    have z : ObjOk X.prog X.w H s.heap a (.tup xs) := I.hok a _ ha
    obtain ⟨_, its, rv, ob, e, c, n, dd⟩ := z
    obtain ⟨as, q, no⟩ := DzAll.reads I hd rv
    exact ⟨_, .tuple e c dd q, no⟩
  | _, _, _, .d0 (a := a) ha, r => by
    cases r
    exact ⟨_, d_reads I ha (.inl ⟨rfl, rfl⟩)⟩
  | _, _, _, .d1 (a := a) ha, r => by
    cases r
    exact ⟨_, d_reads I ha (.inr ⟨_, _, rfl, rfl⟩)⟩
theorem DzAll.reads (I : Inv X pins σ H s) : ∀ {vs : List V} {ds : List PyData} {us : List Value}, DzAll H vs ds → Vals vs us → ∃ as, ReadsAll s.heap us ds as ∧ sysModules ∉ as
  | _, _, _, .nil, r => by
    cases r
    exact ⟨_, .nil, List.not_mem_nil⟩
  | _, _, _, .cons h t, r => by
    cases r with
    | cons r1 r2 =>
      obtain ⟨as, q, no⟩ := Dz.reads I h r1
      obtain ⟨bs, q2, no2⟩ := DzAll.reads I t r2
      exact ⟨_, .cons q q2, no_app no no2⟩
end
end
def rReprZ : List V → Hp → VK → Prop := fun xs H Q => ∃ (x : V) (d : PyData), xs = [x] ∧ Dz H x d ∧ d.showable = true ∧ d.depth ≤ 64 ∧ d.shown.length ≤ sizeLine ∧ (∀ i, x = .int i → i.natAbs.log2 < 1920) ∧ Q (.str d.shown) H
theorem call_reprZ {X : Cx} (hg : Calm X.A) (hu : X.A.units + 70 < cLine) : CallR X (.builtin "repr") rReprZ := by
  intro pins s σ H xs us Q I r h
  obtain ⟨x, d, rfl, hd, hs, hdep, hsz, hi, q⟩ := h
  obtain ⟨u, rfl, rx⟩ := vals1 r
  obtain ⟨as, rd, no⟩ := Dz.reads I hd rx
  have go : ∀ a, u = .ref a → wpAny (model X.prog X.w) X.A (call (.builtin "repr") [u]) (EP X pins σ Q) X.xe s := fun a e => by
    subst e
    refine repr_of_reads' rd hs (fun _ => no) hg (by omega) (fun _ _ e => e) (fun h' u tk hk => ?_) hsz
    exact ⟨.str _, H, I.kept (t' := tk) hk, ⟨_, rfl⟩, q⟩
  cases hd with
  | non =>
    cases rx
    exact PySem.P.repr_of_none ⟨.str _, H, I.tok _, ⟨_, rfl⟩, q⟩
  | bl b =>
    cases rx
    refine PySem.P.repr_of_bool ⟨.str _, H, I.tok _, ⟨_, rfl⟩, ?_⟩
    cases b <;> exact q
  | int i =>
    obtain ⟨t, rfl⟩ := rx
    exact PySem.P.repr_of_int (hi i rfl) ⟨.str _, H, I.tok _, ⟨_, rfl⟩, q⟩
  | str z =>
    obtain ⟨t, rfl⟩ := rx
    exact PySem.P.repr_of_str ⟨.str _, H, I.tok _, ⟨_, rfl⟩, q⟩ hsz
  | lst _ _ _ => exact go _ rx
  | tup _ _ => exact go _ rx
  | d0 _ => exact go _ rx
  | d1 _ => exact go _ rx
theorem call_reprZK {X : Cx} {a : Addr} {oe : Obj} {pn : List (Addr × Obj)} (hg : Calm X.A) (hu : X.A.units + 70 < cLine) : CallR (kept X a oe pn) (.builtin "repr") rReprZ := call_reprZ (X := kept X a oe pn) hg hu
mutual
theorem Dz.same {H H' : Hp} (S : Same H H') : ∀ {v : V} {d : PyData}, Dz H v d → Dz H' v d
  | _, _, .non => .non
  | _, _, .bl b => .bl b
  | _, _, .int i => .int i
  | _, _, .str x => .str x
  | _, _, .lst na ha hd => .lst na (S _ _ ha) (DzAll.same S hd)
  | _, _, .tup ha hd => .tup (S _ _ ha) (DzAll.same S hd)
  | _, _, .d0 ha => .d0 (S _ _ ha)
  | _, _, .d1 ha => .d1 (S _ _ ha)
theorem DzAll.same {H H' : Hp} (S : Same H H') : ∀ {vs : List V} {ds : List PyData}, DzAll H vs ds → DzAll H' vs ds
  | _, _, .nil => .nil
  | _, _, .cons h t => .cons (Dz.same S h) (DzAll.same S t)
end
/-- small data, dicts within or not -/
structure Sz (k n : Nat) (d : PyData) : Prop where
  sh : d.showable = true
  ls : d.leavesShort 250 = true
  wt : d.weight ≤ n
  dp : d.depth ≤ k
structure SzAll (k n : Nat) (ds : List PyData) : Prop where
  sh : PyData.showableAll ds = true
  ls : PyData.leavesShortAll 250 ds = true
  wt : PyData.weightAll ds ≤ n
  dp : PyData.depthAll ds ≤ k
theorem Sm.z {k n : Nat} {d : PyData} (h : Sm k n d) : Sz k n d := ⟨h.sh, h.ls, h.wt, h.dp⟩
theorem Sz.up {k n k' n' : Nat} {d : PyData} (h : Sz k n d) (hk : k ≤ k') (hn : n ≤ n') : Sz k' n' d := ⟨h.sh, h.ls, Nat.le_trans h.wt hn, Nat.le_trans h.dp hk⟩
theorem sz_nil {k : Nat} : SzAll k 0 [] := ⟨by simp [PyData.showableAll], by simp [PyData.leavesShortAll], by simp [PyData.weightAll], by simp [PyData.depthAll]⟩
theorem sz_cons {k a b : Nat} {d : PyData} {ds : List PyData} (h : Sz k a d) (t : SzAll k b ds) : SzAll k (a + 1 + b) (d :: ds) := by
  refine ⟨by simp [PyData.showableAll, h.sh, t.sh], by simp [PyData.leavesShortAll, h.ls, t.ls], ?_, ?_⟩
  · have := h.wt
    have := t.wt
    simp only [PyData.weightAll]
    omega
  · have := h.dp
    have := t.dp
    simp only [PyData.depthAll]
    omega
theorem sz_list {k n : Nat} {ds : List PyData} (t : SzAll k n ds) : Sz (k + 1) n (.list ds) :=
  ⟨by simp [PyData.showable, t.sh], by simp [PyData.leavesShort, t.ls], by simp [PyData.weight, t.wt], by have := t.dp; simp only [PyData.depth]; omega⟩
theorem sz_tup {k n : Nat} {ds : List PyData} (t : SzAll k n ds) : Sz (k + 1) n (.tuple ds) :=
  ⟨by simp [PyData.showable, t.sh], by simp [PyData.leavesShort, t.ls], by simp [PyData.weight, t.wt], by have := t.dp; simp only [PyData.depth]; omega⟩
theorem sz_d0 {k : Nat} : Sz (k + 1) 0 (.dict []) := ⟨by simp [PyData.showable, PyData.showableKv], by simp [PyData.leavesShort, PyData.leavesShortKv], by simp [PyData.weight, PyData.weightKv], by simp [PyData.depth, PyData.depthKv]⟩
theorem sz_d1 {k : Nat} {i j : Int} (a : -(2 ^ 200) < i) (b : i < 2 ^ 200) (c : -(2 ^ 200) < j) (d : j < 2 ^ 200) : Sz (k + 1) 404 (.dict [(.int i, .int j)]) := by
  have x := sm_int (k := 0) a b
  have y := sm_int (k := 0) c d
  refine ⟨by simp only [PyData.showable, PyData.showableKv] at x y ⊢; rw [show decide (i.natAbs.log2 < 1920) = true by have := x.sh; simpa [PyData.showable] using this, show decide (j.natAbs.log2 < 1920) = true by have := y.sh; simpa [PyData.showable] using this]; rfl,
    by simp only [PyData.leavesShort, PyData.leavesShortKv]; rw [show decide ((PyData.shown (.int i)).length ≤ 250) = true by have := x.ls; simpa only [PyData.leavesShort] using this, show decide ((PyData.shown (.int j)).length ≤ 250) = true by have := y.ls; simpa only [PyData.leavesShort] using this]; rfl, ?_, ?_⟩
  · have := x.wt
    have := y.wt
    simp only [PyData.weight, PyData.weightKv] at *
    omega
  · simp [PyData.depth, PyData.depthKv]
theorem Sz.text {k n : Nat} {d : PyData} (h : Sz k n d) (hn : n ≤ 50000) : d.shown.length ≤ sizeLine := by
  have e := PyData.shown_le 250 (by decide) d h.ls
  have w := h.wt
  rw [sizeLine_eq]
  omega
theorem rd_reprZ {H : Hp} {Q : VK} {v : V} {d : PyData} {k n : Nat} (h : Dz H v d) (s : Sz k n d) (hk : k ≤ 60) (hn : n ≤ 50000) (q : Q (.str d.shown) H) : rReprZ [v] H Q := by
  refine ⟨v, d, rfl, h, s.sh, by have := s.dp; omega, s.text hn, fun i e => ?_, q⟩
  subst e
  cases h
  have z := s.sh
  simp only [PyData.showable, decide_eq_true_eq] at z
  exact z
/-- a list's display, told that it is no module table -/
def tLstN (t : TA) : TE := fun σ H Q => t σ H fun xs H1 => xs.length ≤ sizeLine ∧ ∀ p, p ≠ sysModules → H1 p = none → Q (.ref p) (upd H1 p (.lst xs))
theorem pe_lstN {X : Cx} {es : List Expr} {t : TA} {pos : Pos} (h : PA X es t) : PE X (.List es pos) (tLstN t) := by
  constructor
  intro pins s σ H Q I hq
  refine wpAny_List_spliced (thn (h.run pos pins s σ H _ I hq) fun us s1 z => ?_)
  obtain ⟨xs, H1, J, r, z, q⟩ := z
  have fresh := J.hok.fresh (Nat.le_refl s1.heap.objs.size)
  exact ⟨r.length ▸ z, .ref s1.heap.objs.size, upd H1 s1.heap.objs.size (.lst xs), J.laid (t' := s1.toks) (fun _ _ e => Heap.get?_push_of_some _ e) (Nat.le_refl _) ⟨z, us, 0, r, Heap.get?_push_size _ rfl⟩, rfl, q _ (Nat.ne_of_gt J.big) fresh⟩
/-! ### the keeping try, its wish told how many slots there are -/
/-- what a try that keeps its error wishes of one that its body raises -/
def wKeepL (K : PySem.W.Frag) (c : Value) (n : Nat) (i : Nat) (ts tk : Addr → Value → Option Addr → TS) (D : Ends) : WX := fun cls d σ H =>
  PySem.W.exmOne K cls c = some true ∧ ∀ a, H a = none → σ.length = n → ts a cls d { nx := fun σ' H' => tk a cls d D (σ'.set i none) H', rt := fun _ _ => False } (σ.set i (some (.ref a))) H
section
variable {X : Cx} {x n : Str} {c : Value} {i : Nat} {body suite rest : List Stmt} {b₀ : Stmt} {np pos pos' : Pos} {tb : WX → TS} {ts tk : Addr → Value → Option Addr → TS} {t0 : TS}
/-- try: body / except x as n: suite, and what stands behind, read in the light of the error that was caught -/
theorem pss_keepL (hs : X.stack = X.env :: X.outer) (hf : X.env.frame = some X.env.locals) (hN : X.N.Nodup) (hi : X.N[i]? = some n) (hln : X.env.kindOf n = some .local) (hc : Names X x c)
    (hb : ∀ (W : WX) (pn : List (Addr × Obj)) (xe : Value → Shared → Prop), Takes (X.tr pn xe) W → PSs (X.tr pn xe) body (tb W))
    (hsu : ∀ (a : Addr) (oe : Obj) (cls : Value) (d : Option Addr) (pn : List (Addr × Obj)), Zc cls d oe → (∃ vs, oe.data = .fields vs) → PSs (X.suite a ((a, oe) :: pn)) (b₀ :: suite) (ts a cls d))
    (h0 : PSs X rest t0)
    (hk : ∀ (a : Addr) (oe : Obj) (cls : Value) (d : Option Addr) (pn : List (Addr × Obj)), Zc cls d oe → (∃ vs, oe.data = .fields vs) → PSs (kept X a oe pn) rest (tk a cls d)) :
    PSs X (.Try body [.ExceptHandler (some (.Name x np)) (some n) (b₀ :: suite) pos'] [] [] pos :: rest) (fun D σ H => tb (wKeepL X.K c X.N.length i ts tk D) { D with nx := t0 D } σ H) := by
  constructor
  intro pins s σ H D I h
  have ok := I.ok
  -- either as behind any statement, or with the error kept
  refine wpAny_execs_cons (thn (Q := fun fl s1 => SP X pins { D with nx := t0 D } fl s1 ∨ (fl = .next ∧ ∃ (a : Addr) (oe : Obj) (cls : Value) (d : Option Addr) (σ' : L2.St) (H' : Hp), Zc cls d oe ∧ (∃ vs, oe.data = .fields vs) ∧
    Inv (kept X a oe (X.pn ++ pins)) [] σ' H' s1 ∧ tk a cls d D σ' H')) ?_ fun fl s1 z => ?_)
  · have hfr : X.A.frames = some (X.env :: X.outer) := ok.frames.trans (congrArg some hs)
    refine wpAny_Try_except ?_
    refine wpAny_mono ((hb (wKeepL X.K c X.N.length i ts tk D) (X.pn ++ pins) _ (fun u s' xx => ?_)).run [] s σ H _ (I.toTry _) h) (fun fl s1 z => ?_) (fun e s1 he => he)
    · -- what the body raises is caught here
      obtain ⟨a, B, sI, pins', σ', H', cls, d, eu, J', nb, up, sky, na, os, ag, hyes, hgo⟩ := xx
      subst eu
      have J : Inv X pins σ' H' sI := J'.ofTry ok
      have air : Sky B (X.env :: X.outer) a (Zc cls d) X.env.locals s'.heap := hs ▸ sky
      refine Sky.land Zc.steady hfr hf air fun h1 fly1 up1 => ?_
      have J1 : Inv X pins σ' H' { s' with heap := h1 } := J.landed nb fly1.1 (up.trans up1) os ag
      obtain ⟨o1, v1, at1, z1, f1⟩ := fly1.there
      have off : a ∉ frs (X.env :: X.outer) := fun hm => by
        obtain ⟨_, o', e', no⟩ := fly1.2.2.1.mem hm
        rw [at1] at e'
        cases e'
        exact no _ f1
      have offL : a ≠ X.env.locals := fun z => off (List.mem_filterMap.mpr ⟨X.env, List.mem_cons_self, hf.trans (congrArg some z.symm)⟩)
      have offF : a ∉ X.fs := fun hm => by
        obtain ⟨e, m, q⟩ := List.mem_filterMap.mp hm
        exact off (List.mem_filterMap.mpr ⟨e, List.mem_cons_of_mem _ m, q⟩)
      have S1 := J1.suite at1 f1 na offL offF
      have cl : PySem.W.Looks (model X.prog X.w) h1 (typeOf (.ref a)) cls := fun A Q E s k q => wpAny_typeOf_ref (k _ _ at1) (z1.1.symm ▸ q)
      have fits := PySem.W.exm_one (M := model X.prog X.w) J1.kIn cl hyes
      have named : ∀ {Q : Value → Shared → Prop} {E : Value → Shared → Prop}, Q c { s' with heap := h1 } → wpAny (model X.prog X.w) (X.A.mark (some (.ref a))) (eval (.Name x np) X.env) Q E { s' with heap := h1 } := fun {Q E} q => by
        obtain ⟨g, nodb, m⟩ := hc
        rcases m with m | ⟨m, bt, nn⟩
        · exact ld_glob (X := X.suite a ((a, o1) :: (X.pn ++ pins))) S1 g m q nodb
        · exact ld_blt (X := X.suite a ((a, o1) :: (X.pn ++ pins))) S1 g m bt q nn nodb
      refine wpAny_handleBy_cons (codeAny_handlers_test (named (fits.here ?_))) (fun q => nomatch q)
      refine codeAny_handlers_suite_as (HandSPX.lands_againZ fly1 fun h2 fly2 up2 => ?_)
      obtain ⟨o2, v2, at2, z2, f2⟩ := fly2.there
      have S2 := (J.landed (s' := { s' with heap := h2 }) nb fly2.1 ((up.trans up1).trans up2) os ag).suite at2 f2 na offL offF
      refine store_ok (X := X.suite a ((a, o2) :: (X.pn ++ pins))) (v := .ref a) S2 hN hi (.inl hln) rfl (fun s3 S3 => ?_) (.inr hln)
      refine wpAny_mono ((hsu a o2 cls d (X.pn ++ pins) z2 ⟨_, f2⟩).run [] s3 _ H' _ S3 (hgo a na J.len)) (fun fl s4 z => ?_) (fun _ _ z => False.elim z)
      match fl, z with
      | .next, ⟨σ4, H4, S4, q4⟩ => exact gone_ok (X := kept X a o2 (X.pn ++ pins)) (kept_of ok S4) hN hi hln fun s5 J5 => .inr ⟨rfl, a, o2, cls, d, _, _, z2, ⟨_, f2⟩, J5, q4⟩
      | .brk, ⟨_, _, _, q4⟩ => exact False.elim q4
      | .cont, ⟨_, _, _, q4⟩ => exact False.elim q4
      | .ret _, ⟨_, _, _, _, _, q4⟩ => exact False.elim q4
    · match fl, z with
      | .next, ⟨σ', H', J', q⟩ => exact wpAny_execs_nil (.inl ⟨σ', H', J'.ofTry ok, q⟩)
      | .brk, ⟨σ', H', J', q⟩ => exact .inl ⟨σ', H', J'.ofTry ok, q⟩
      | .cont, ⟨σ', H', J', q⟩ => exact .inl ⟨σ', H', J'.ofTry ok, q⟩
      | .ret _, ⟨v, σ', H', J', r, q⟩ => exact .inl ⟨v, σ', H', J'.ofTry ok, r, q⟩
  · rcases z with z | ⟨rfl, a, oe, cls, d, σ', H', zc, hd, J, q⟩
    · match fl, z with
      | .next, ⟨σ', H', J, q⟩ => exact h0.run pins s1 σ' H' D J q
      | .brk, z => exact z
      | .cont, z => exact z
      | .ret _, z => exact z
    · exact thn ((hk a oe cls d (X.pn ++ pins) zc hd).run [] s1 σ' H' D J q) fun fl s2 z => sp_kept ok z
end
/-! ### a list times an int, told that it is no module table -/
def rRepN : R2 := fun x y H Q => ∃ l k xs, x = .ref l ∧ y = .int k ∧ H l = some (.lst xs) ∧ -(2 ^ 63) ≤ k ∧ k < 2 ^ 63 ∧ xs.length * k.toNat ≤ sizeLine ∧
  ∀ p, p ≠ sysModules → H p = none → Q (.ref p) (upd H p (.lst (List.replicate k.toNat xs).flatten))
theorem all_at_once (its : List Value) (m : Nat) : List.foldl (fun a b => a ++ b) #[] (List.replicate (if its.toArray.isEmpty = true then 0 else m) its.toArray) = (List.replicate m its).flatten.toArray := by
  have z := foldl_rep its m []
  rw [List.nil_append] at z
  cases its with
  | nil =>
    rw [← z]
    have no : ∀ j : Nat, List.foldl (fun a b : Array Value => a ++ b) #[] (List.replicate j #[]) = #[] := fun j => by
      induction j with
      | zero => rfl
      | succ j ih => rw [List.replicate_succ, List.foldl_cons]; simpa using ih
    simp [no]
  | cons a r =>
    rw [if_neg (by simp)]
    exact z
theorem op_repN {X : Cx} : OpR X (binaryOp .Mult) rRepN := by
  intro pins s σ H x y v u Q I rx ry h
  obtain ⟨l, k, xs, ex, ey, at_l, k1, k2, fits, q⟩ := h
  subst ex
  subst ey
  cases rx
  obtain ⟨t, et⟩ := ry
  subst et
  obtain ⟨_, its, n, rel, len, e⟩ := I.lstM at_l
  have fits' : its.toArray.size * k.toNat ≤ sizeLine := by
    rw [List.size_toArray, ← len]
    exact fits
  have cap : ¬ its.toArray.size * k.toNat > (2 ^ 63 - 1) / 8 := fun z => absurd (Nat.lt_of_lt_of_le z fits') (by decide)
  have idx : ¬ (!Builtin.List.listFitsIndex k) = true := by rw [fitsIndex_both k1 k2]; simp
  have long : ¬ Builtin.List.listTooLong (its.toArray.size * k.toNat) = true := by rw [notLongL fits']; simp
  refine wpAny_binaryOp_repeat_ref (T := "list") (U := "int") (by decide) ⟨_, e, rfl⟩ (fun s' => typeIs_int s' k t) noFill_list_mul
    F.fills_int_mul F.slot_int_rmul repeat_list F.slot_int_index.lookup ?_
  refine call_meets F.slot_int_rmul (typeIs_int s k t)
    F.entry_int_rmul (F.args_int_rmul_2 _ _) (int___rmul___int_list k t l its.toArray n) ⟨e, rfl, ⟨_, e, rfl⟩, ?_⟩
  refine call_meets F.slot_list_mul ⟨_, e, rfl⟩ F.entry_list_mul
    (F.args_list_mul_2 _ _) (AutoListH.list___mul___list_int_3 l its.toArray n k t idx cap long) ⟨e, ?_⟩
  rw [all_at_once]
  have sz : (List.replicate k.toNat xs).flatten.length ≤ sizeLine := by
    rw [PyProof.Rows.lm_len_rep_flat, Nat.mul_comm]
    exact fits
  exact ⟨.ref _, _, I.lnew (t' := s.toks) (rel.rep k.toNat) sz, rfl, q _ (Nat.ne_of_gt I.big) I.fresh⟩
/-! ### the law's own call, where one def makes lambdas: its table of code objects is tracked, too -/
/-- the script and the table alone are tracked, or the table -/
def trackT (a P : Addr) (o : HO) : Hp := fun b => if b = P then some (.tbl #[]) else if b = a then some o else none
def trackP (P : Addr) : Hp := fun b => if b = P then some (.tbl #[]) else none
theorem lawGT {Pr : Program} {w : World} {K : PySem.W.Frag} {mg mb : Str → Option Value} {k : Nat} {fa a c P : Addr} {fd : FuncData} {x : Str} {sp : Sp} {s : Shared} {us : List Value} {ns : List Int}
    (kin : K.In s.heap) (gl : s.heap.Ns mainGlobals mg) (bl : s.heap.Ns builtinsNs mb) (bb : ∀ x : Str, x ≠ "__name__" → mb x = bootBuiltins x) (lim : s.heap.NoLimit) (gens : s.gens = #[])
    (tab : s.heap.get? P = some { cls := .none, data := .fields #[] }) (offP : K.lookup P = none) (hd : PySem.W.CodeHd s.heap c P)
    (bm : ∃ (bm : Addr) (ob : Obj), mg "__builtins__" = some (.ref bm) ∧ bm ≠ builtinsNs ∧ s.heap.get? bm = some ob ∧ ob.cls = .type "module" ∧ ob.dict = some builtinsNs ∧ ob.data = .plain)
    (ha : s.heap.get? a = some { cls := .type "list", data := .seq us.toArray }) (whole : IntsAre us ns) (line : ns.length ≤ sizeLine) (room : Room k callerA)
    (F : ∀ base : Heap, K.In base → base.Ns mainGlobals mg → LamX.TabB base mg c P → FnG Pr w K mg base CX0 k fa fd [x] sp)
    (bind : ∀ (s : Shared) (u : Value), BindsTo s fd ⟨[u], []⟩ [(x, u)])
    (hsp : ∀ H : Hp, H P = some (.tbl #[]) → SqL K H a (ns.map V.int) → sp [.ref a] H (fun v _ => v = .bl true) fun _ _ _ => False) :
    codeAny (model Pr w) callerA (.call (.ref fa) ⟨[.ref a], []⟩) (fun r s' => r = .ok (.ret (.bool true)) ∧ OldK s.heap s'.heap ∧ s'.os = s.os ∧ AllBare s'.gens) s := by
  have rel := vals_ints whole
  have size := whole.length
  have naP : a ≠ P := fun z => by
    rw [z, tab] at ha
    cases ha
  have go : ∀ H : Hp, H P = some (.tbl #[]) → SqL K H a (ns.map V.int) → HOk Pr w H s.heap → (∀ b u, H b = some u → (b = P ∧ u = .tbl #[]) ∨ (b = a ∧ K.lookup a = none ∧ ∃ o xs, u = .frz o (.lst xs))) →
      codeAny (model Pr w) callerA (.call (.ref fa) ⟨[.ref a], []⟩) (fun r s' => r = .ok (.ret (.bool true)) ∧ OldK s.heap s'.heap ∧ s'.os = s.os ∧ AllBare s'.gens) s := by
    intro H hP hS hok only
    -- what is neither the script nor the table is not tracked
    have free : ∀ {b : Addr} {o : Obj}, s.heap.get? b = some o → (∀ vs n, o.data ≠ .seq vs n) → o.data ≠ .fields #[] → H b = none := fun {b o} e n1 n2 => by
      cases q : H b with
      | none => rfl
      | some u =>
        rcases only b u q with ⟨z, _⟩ | ⟨z, _⟩
        · subst z
          rw [tab] at e
          cases e
          exact absurd rfl n2
        · subst z
          rw [ha] at e
          cases e
          exact absurd rfl (n1 _ _)
    have keepNs : ∀ {b : Addr} {m : Str → Option Value}, s.heap.Ns b m → (hidT s.heap H).Ns b m := fun {b m} z => by
      obtain ⟨o, es, n, e, d, r⟩ := z
      exact ⟨o, es, n, hidT_get e (free e (fun vs n z => by rw [d] at z; cases z) fun z => by rw [d] at z; cases z), d, r⟩
    have kinB : K.In (hidT s.heap H) := fun b o e => hidT_get (kin b o e) (by
      cases q : H b with
      | none => rfl
      | some u =>
        rcases only b u q with ⟨z, _⟩ | ⟨z, no, _⟩
        · subst z
          rw [offP] at e
          cases e
        · subst z
          rw [no] at e
          cases e)
    have limB : (hidT s.heap H).NoLimit := by
      obtain ⟨m, h1, h2⟩ := lim
      exact ⟨m, keepNs h1, h2⟩
    have tb : LamX.TabB (hidT s.heap H) mg c P := by
      refine ⟨?_, ?_, fun z => ?_⟩
      · obtain ⟨o, vs, file, tf, flags, tg, inF, text, tt, e, r1, r2, r3, r4⟩ := hd
        exact ⟨o, vs, file, tf, flags, tg, inF, text, tt, hidT_get e (free e (fun vs n z => by rw [r2] at z; cases z) fun z => by rw [r2] at z; cases z; simp at r3), r1, r2, r3, r4⟩
      · obtain ⟨m, ob, b1, b2, b3, b4, b5, b6⟩ := bm
        refine ⟨m, ob, b1, b2, fun z => ?_, fun z => ?_, hidT_get b3 (free b3 (fun vs n z => by rw [b6] at z; cases z) fun z => by rw [b6] at z; cases z), b4, b5, b6⟩
        · obtain ⟨o, es, n, e, d, _⟩ := gl
          rw [← z, b3] at e
          cases e
          rw [b6] at d
          cases d
        · rw [z, tab] at b3
          cases b3
          cases b6
      · obtain ⟨o, es, n, e, d, _⟩ := gl
        rw [z, tab] at e
        cases e
        cases d
    have e0 : Env0 Pr w K mg (hidT s.heap H) callerA [] s H :=
      { frames := rfl, mod := ⟨kinB, keepNs gl, ⟨mb, keepNs bl, bb⟩, limB⟩, bs := fun b o e => of_hidT e, bsz := Nat.le_of_eq (hidT_size _ _), funs := trivial,
        frf := fun b hb => (List.not_mem_nil (show b ∈ ([] : List Addr) from hb)).elim, hok := hok, bare := .of_eq gens }
    refine codeAny_mono ((F _ kinB (keepNs gl) tb).goes callerA rfl [] s H ⟨[.ref a], []⟩ [.ref a] [.ref a] _ _ room e0 (bind s (.ref a)) (.cons rfl .nil) (hsp H hP hS)) fun r s' z => ?_
    match r, z with
    | .error _, z => exact False.elim z
    | .ok .next, z => exact False.elim z
    | .ok .brk, z => exact False.elim z
    | .ok .cont, z => exact False.elim z
    | .ok (.ret u), z =>
      obtain ⟨v, H', os, bare, un, hok', rv, q⟩ := z
      have q' : v = .bl true := q
      subst q'
      obtain rfl : u = Value.bool true := rv
      -- the table has grown, perhaps
      have grown : ∃ more : Array Value, s'.heap.get? P = some { cls := .none, data := .fields more } := by
        obtain ⟨more, z⟩ := un.tbls P #[] hP
        exact ⟨_, hok' P _ z⟩
      have same : ∀ b o, b ≠ P → s.heap.get? b = some o → s'.heap.get? b = some o := fun b o nb e => by
        cases q : H b with
        | none => exact un.keep b o e q List.not_mem_nil List.not_mem_nil
        | some u =>
          rcases only b u q with ⟨z, _⟩ | ⟨_, _, ob, xs, eu⟩
          · exact absurd z nb
          · subst eu
            have h1 := (hok b _ q).1
            have h2 := (hok' b _ (un.frzs b ob _ q)).1
            rw [e] at h1
            rw [h2, ← Option.some.inj h1]
      obtain ⟨more, hm⟩ := grown
      refine ⟨rfl, ⟨fun b o e => ?_, fun b o e => ?_⟩, os, bare⟩
      · by_cases hb : b = P
        · subst hb
          rw [tab] at e
          cases e
          exact .inr (.inl ⟨(hd.tab tab).isCodeTable, rfl, #[], more, rfl, by rw [Array.empty_append]; exact hm⟩)
        · exact .inl (same b o hb e)
      · by_cases hb : b = P
        · subst hb
          exact ⟨_, hm⟩
        · exact ⟨o, same b o hb e⟩
  cases hk : K.lookup a with
  | none =>
    have atP : trackT a P (.frz { cls := .type "list", data := .seq us.toArray } (.lst (ns.map V.int))) P = some (.tbl #[]) := if_pos rfl
    have atA : trackT a P (.frz { cls := .type "list", data := .seq us.toArray } (.lst (ns.map V.int))) a = some (.frz { cls := .type "list", data := .seq us.toArray } (.lst (ns.map V.int))) := (if_neg naP).trans (if_pos rfl)
    have off : ∀ b, b ≠ P → b ≠ a → trackT a P (.frz { cls := .type "list", data := .seq us.toArray } (.lst (ns.map V.int))) b = none := fun b h1 h2 => (if_neg h1).trans (if_neg h2)
    refine go _ atP (.inl (.inr ⟨_, atA⟩)) (fun b u z => ?_) fun b u z => ?_
    · by_cases h1 : b = P
      · subst h1
        cases atP.symm.trans z
        exact tab
      · by_cases h2 : b = a
        · subst h2
          cases atA.symm.trans z
          exact ⟨ha, by rw [List.length_map]; exact line, us, _, rel, ha⟩
        · rw [off b h1 h2] at z
          cases z
    · by_cases h1 : b = P
      · subst h1
        cases atP.symm.trans z
        exact .inl ⟨rfl, rfl⟩
      · by_cases h2 : b = a
        · subst h2
          cases atA.symm.trans z
          exact .inr ⟨rfl, hk, _, _, rfl⟩
        · rw [off b h1 h2] at z
          cases z
  | some o =>
    have e := kin a o hk
    rw [ha] at e
    have e' := Option.some.inj e
    subst e'
    have small : us.toArray.size ≤ sizeLine := by rw [List.size_toArray, size]; exact line
    have atP : trackP P P = some (.tbl #[]) := if_pos rfl
    refine go (trackP P) atP (.inr ⟨_, us.toArray, _, hk, rfl, rfl, rfl, small, by simpa using rel⟩) (fun b u z => ?_) fun b u z => ?_
    · by_cases h1 : b = P
      · subst h1
        cases atP.symm.trans z
        exact tab
      · rw [show trackP P b = none from if_neg h1] at z
        cases z
    · by_cases h1 : b = P
      · subst h1
        cases atP.symm.trans z
        exact .inl ⟨rfl, rfl⟩
      · rw [show trackP P b = none from if_neg h1] at z
        cases z
/-- what k_head leaves, from the law's promise -/
theorem walkGT {l : PySem.W.OpenLaw} {n k : Nat} {q : Program} {loose : List Str} {XP : (Str → Option Value) → Heap → Prop} {YP : World → Heap → Prop} {d d' : DefRec} {K : Params → PySem.W.Frag} {sp : PySem.W.Frag → Addr → Sp} {x y : Str} {c P : Addr}
    (most : l.most = some n) (line : n ≤ sizeLine) (nodef : d.params.defaults = []) (room : Room k callerA) (hY : ∀ (w : World) (h : Heap), YP w h → (K w.params).In h)
    (rec : (recsOf q).find? (fun e => e.name == y) = some d') (inK : ∀ w : World, PySem.W.tabIn (K w.params) y = some (c, P)) (offP : ∀ w : World, (K w.params).lookup P = none)
    (F : ∀ (w : World) (mg : Str → Option Value) (fa : Addr) (h : Heap), (K w.params).In h → h.Ns mainGlobals mg → mg d.name = some (.ref fa) →
      ∃ fd : FuncData, (∀ (s : Shared) (u : Value), BindsTo s fd ⟨[u], []⟩ [(x, u)]) ∧
        ∀ base : Heap, (K w.params).In base → base.Ns mainGlobals mg → LamX.TabB base mg c P → FnG l.prog w (K w.params) mg base CX0 k fa fd [x] (sp (K w.params) P))
    (hsp : ∀ (K : PySem.W.Frag) (P : Addr) (H : Hp) (a : Addr) (ns : List Int), ns.length ≤ n → H P = some (.tbl #[]) → SqL K H a (ns.map V.int) → sp K P [.ref a] H (fun v _ => v = .bl true) fun _ _ _ => False) :
    PySem.W.WalkO q loose XP YP l.row.toRowW d [] (fun f vs => PySem.call f vs) := by
  refine Att.attach_call most nodef fun w s0 s1 mg mb fa o pm cd doc a vs ns G Y _ _ _ named obj whole few gens => ?_
  have kin := hY w _ Y
  obtain ⟨fd, bind, all⟩ := F w mg fa _ kin G.T.g named
  obtain ⟨hd, tab⟩ := PySem.W.tab_of G.T kin rec (inK w)
  exact lawGT kin G.T.g G.T.b G.T.builtins G.T.nolimit gens tab (offP w) hd G.T.bmain obj whole (Nat.le_trans few line) room all bind fun H hP hS => hsp _ _ H a ns few hP hS

/-! ### a def whose code is told -/
def FunC (K : PySem.W.Frag) (x qual : Str) (st : Stmt) (f : Addr) (fd : FuncData) (cd : Value) : Prop :=
  ∃ (oc : Value) (od : Option Addr) (kw doc pm : Value) (an : Option Addr) (ct : Value) (osl : Array (Option Value)), fd = PySem.W.fnOf x qual (defArgs st) (defBody st) (defScope st) .none kw doc pm an cd ct ∧ K.lookup f = some ⟨oc, od, .func fd, osl⟩ ∧ PySem.W.codeIn K cd qual = true
section
variable {P : Program} {w : World} {K : PySem.W.Frag} {mg : Str → Option Value} {base : Heap} {CX : CXT} {k : Nat} {f : Addr} {fd : FuncData} {ps : List Str} {sp : Sp}
/-- a def of the text, by its body, with no repr around -/
theorem Fun_okGc {cdc : Value} {x qual : Str} {st : Stmt} {N : List Str} (F : FunC K x qual st f fd cdc) (S : FnScope N ps (defScope st)) (len : ∀ vs H Q E, sp vs H Q E → vs.length = ps.length)
    (hbody : ∀ (A : Around) (fr : List Env) (s : Shared) (H : Hp) (vs : List V) (Q : VK) (E : XK), Calm A →
      Room k (A.deeper (envOfC qual (defScope st) s.heap.objs.size f cdc)) → sp vs H Q E →
        ∃ t, PSs (cxOf CX P w K mg base N qual (defScope st) f cdc A fr s H E).nox (defBody st) t ∧ t { nx := fun _ H' => Q .non H', rt := Q } (start N vs) H) :
    FnG P w K mg base CX (k + 1) f fd ps sp := by
  obtain ⟨oc, od, kw, doc, pm, an, ct, osl, rfl, at_f, hcd⟩ := F
  constructor
  · exact len
  intro A calm fr s H args us vs Q E room e0 binds rel hsp
  have hlen := len _ _ _ _ hsp
  have stays : ∀ b o, base.get? b = some o → s.heap.get? b = some o := fun b o e => (e0.bs b o e).1
  refine codeAny_call_function room.depth (e0.mod.kin.keeps stays _ _ at_f) rfl S.co S.gen rfl (PySem.W.codeRec_of (e0.mod.kin.keeps stays) hcd) (binds _ _ _ _ ?_)
  refine wpAny_newFunctionEnv_cells S.kind (fun ⟨n, v⟩ hy => ?_) fun env he s1 inC => ?_
  · cases S.par n (List.of_mem_zip hy).1 with
    | inl z => exact .inl z
    | inr z => exact .inr ⟨z, PySem.W.cellsFrom_some _ _ _ (.inl z)⟩
  subst he
  refine ⟨(e0.mod.nolimit.keeps stays).keeps inC.toInCall.keep, codeAny_func ?_⟩
  obtain ⟨t, ht, hq⟩ := hbody A fr s H vs Q E calm (room.deeper _) hsp
  refine wpAny_mono (ht.nox.run [] s1 (start N vs) H _ (inv_start (CX := CX) S room.hd e0 hlen rel inC) hq) (fun fl s' z => ?_) fun _ _ z => z
  match fl, z with
  | .ret _, ⟨v, _, H', J, rv, q⟩ => exact ⟨v, H', J.os, J.bare, J.base, J.hok, rv, q⟩
  | .next, ⟨_, H', J, q⟩ => exact ⟨.non, H', J.os, J.bare, J.base, J.hok, rfl, q⟩
  | .brk, ⟨_, _, _, q⟩ => exact q.elim
  | .cont, ⟨_, _, _, q⟩ => exact q.elim
end
section
variable {K : PySem.W.Frag} {H : Hp} {p : Addr}
theorem rd_for {wi : TI} {g : TG} {tb : TS} {D : Ends} {σ : L2.St} (k : wi σ H fun J H1 => ∃ W : Nat → Nat → L2.St → Hp → Prop, (∃ m, W 0 m σ H1) ∧ ∀ i m σ H, W i m σ H →
  (J.stop i H ∧ D.nx σ H) ∨ (J.go i H ∧ ∃ N : L2.St → Hp → Prop, (∀ σ' H', N σ' H' → ∃ m', m' < m ∧ W (i + 1) m' σ' H') ∧ ∀ x H', J.yld i H x H' → g x σ H' fun σ2 H2 => tb { D with nx := N, ct := N, bk := D.nx } σ2 H2)) : tFor wi g tb D σ H := k
theorem rd_iT {tl : TE} {σ : L2.St} {R : It → Hp → Prop} (k : tl σ H fun x H1 => ∃ a, x = .ref a ∧ (∃ xs, SqT K H1 a xs) ∧ R (Itt K a) H1) : iTup K tl σ H R := k
theorem rd_iL {tl : TE} {σ : L2.St} {R : It → Hp → Prop} (k : tl σ H fun x H1 => ∃ a, x = .ref a ∧ (∃ xs, SqL K H1 a xs) ∧ R (Itl K a) H1) : iList K tl σ H R := k
theorem rd_iTa {xs : List V} {R : Addr → Prop} (h : H p = some (.tup xs)) (k : R p) : ∃ a, V.ref p = .ref a ∧ (∃ xs, SqT K H a xs) ∧ R a := ⟨p, rfl, ⟨xs, SqT.of h⟩, k⟩
theorem rd_iLa {xs : List V} {R : Addr → Prop} (h : H p = some (.lst xs)) (k : R p) : ∃ a, V.ref p = .ref a ∧ (∃ xs, SqL K H a xs) ∧ R a := ⟨p, rfl, ⟨xs, SqL.of h⟩, k⟩
theorem rd_rng2 {tA : TA} {σ : L2.St} {R : It → Hp → Prop} (k : tA σ H fun vs H1 => ∃ i j : Int, vs = [.int i, .int j] ∧ (-(2 ^ 62) ≤ i ∧ i < 2 ^ 62 ∧ -(2 ^ 62) ≤ j ∧ j < 2 ^ 62) ∧ R (Itr i (j - i).toNat) H1) : iRng2 tA σ H R := k
theorem rd_rng1 {tA : TA} {σ : L2.St} {R : It → Hp → Prop} (k : tA σ H fun vs H1 => ∃ j : Int, vs = [.int j] ∧ -(2 ^ 62) ≤ j ∧ j < 2 ^ 62 ∧ R (Itr 0 j.toNat) H1) : iRng1 tA σ H R := k
theorem Pot.same {H H' : Hp} {p : Addr} {n : Nat} (h : Pot H p n) (s : Same H H') : Pot H' p n := by
  obtain ⟨x, z, c, a, b⟩ := h
  exact ⟨x, z, c, s _ _ a, b⟩
theorem rep_snoc {α : Type} (i : Nat) (x : α) : List.replicate i x ++ [x] = List.replicate (i + 1) x := by
  rw [List.replicate_succ']
theorem all_rep (i : Nat) : (List.replicate i true).all id = true := by
  induction i with
  | zero => rfl
  | succ n ih => rw [List.replicate_succ, List.all_cons, ih]; rfl
end
section
variable {P : Program} {w : World} {K : PySem.W.Frag} {mg : Str → Option Value} {base : Heap}
/-! ### numbers of one cut: the mathematics -/
/-- the least integer from s on that differs from n by a multiple of m -/
def nxt (m s n : Int) : Int := s + (n - s) % m
theorem nxt_ge {m s n : Int} (hm : 0 < m) : s ≤ nxt m s n := by
  have := Int.emod_nonneg (n - s) (by omega : m ≠ 0)
  unfold nxt
  omega
theorem nxt_lt {m s n : Int} (hm : 0 < m) : nxt m s n < s + m := by
  have := Int.emod_lt_of_pos (n - s) hm
  unfold nxt
  omega
theorem nxt_dvd {m s n : Int} : m ∣ nxt m s n - n := by
  have h : nxt m s n - n = -((n - s) - (n - s) % m) := by unfold nxt; omega
  rw [h]
  exact Int.dvd_neg.mpr (Int.dvd_self_sub_emod)
theorem dvd_small {m d : Int} (h : m ∣ d) (h1 : -m < d) : 0 ≤ d := by
  by_cases q : 0 ≤ d
  · exact q
  · have := Int.le_of_dvd (a := m) (b := -d) (by omega) (Int.dvd_neg.mpr h)
    omega
theorem dvd_big {m d : Int} (h : m ∣ d) (h1 : 0 ≤ d) (h2 : d ≠ 0) : m ≤ d := Int.le_of_dvd (by omega) h
theorem dvd_tr {m a b c : Int} (h1 : m ∣ a - b) (h2 : m ∣ b - c) : m ∣ a - c := by
  have : a - c = (a - b) + (b - c) := by omega
  rw [this]
  exact Int.dvd_add h1 h2
theorem dvd_sy {m a b : Int} (h1 : m ∣ a - b) : m ∣ b - a := by
  have : b - a = -(a - b) := by omega
  rw [this]
  exact Int.dvd_neg.mpr h1
/-- what differs from n by a multiple of m, from s on, is nxt or at least m above -/
theorem nxt_min {m s n x : Int} (hm : 0 < m) (hx : s ≤ x) (h : m ∣ x - n) : x = nxt m s n ∨ nxt m s n + m ≤ x := by
  have h1 : m ∣ x - nxt m s n := dvd_tr h (dvd_sy nxt_dvd)
  have h2 := nxt_lt (m := m) (s := s) (n := n) hm
  have h3 := dvd_small h1 (by omega)
  by_cases q : x - nxt m s n = 0
  · exact .inl (by omega)
  · have := dvd_big h1 h3 q
    exact .inr (by omega)
def InR (o0 o1 p0 p1 a b : Int) : Prop := o0 ≤ a ∧ a ≤ o1 ∧ p0 ≤ b ∧ b ≤ p1
def Valid (m o0 o1 p0 p1 a b : Int) : Prop := InR o0 o1 p0 p1 a b ∧ a ≠ b ∧ m ∣ a - b
def LexLe (x y a b : Int) : Prop := x < a ∨ (x = a ∧ y ≤ b)
theorem LexLe.trans {x y a b c d : Int} (h : LexLe x y a b) (k : LexLe a b c d) : LexLe x y c d := by
  unfold LexLe at *
  omega
theorem LexLe.anti {x y a b : Int} (h : LexLe x y a b) (k : LexLe a b x y) : x = a ∧ y = b := by
  unfold LexLe at *
  omega
/-- the numbers that are looked at -/
def As (m o0 p0 : Int) : List Int := [o0, nxt m o0 p0, nxt m o0 p0 + m]
def Bs (m p0 a : Int) : List Int := [nxt m p0 a, nxt m p0 a + m]
theorem Bs_dvd {m p0 a b : Int} (h : b ∈ Bs m p0 a) : m ∣ a - b := by
  simp only [Bs, List.mem_cons, List.not_mem_nil, or_false] at h
  rcases h with rfl | rfl
  · exact dvd_sy nxt_dvd
  · have e : a - (nxt m p0 a + m) = (a - nxt m p0 a) + -m := by omega
    rw [e]
    exact Int.dvd_add (dvd_sy nxt_dvd) (Int.dvd_neg.mpr (Int.dvd_refl m))
theorem cands {m o0 o1 p0 p1 a b : Int} (hm : 0 < m) (h : Valid m o0 o1 p0 p1 a b) :
    ∃ a' ∈ As m o0 p0, ∃ b' ∈ Bs m p0 a', a' ≠ b' ∧ InR o0 o1 p0 p1 a' b' ∧ LexLe a' b' a b := by
  obtain ⟨⟨h1, h2, h3, h4⟩, ne, dv⟩ := h
  by_cases c : a - o0 ≤ b - p0
  · -- down to the first of one
    have dv' : m ∣ (b - (a - o0)) - o0 := by
      have e : (b - (a - o0)) - o0 = b - a := by omega
      rw [e]
      exact dvd_sy dv
    have z := nxt_min (s := p0) hm (by omega) dv'
    by_cases q : nxt m p0 o0 = o0
    · refine ⟨o0, by simp [As], nxt m p0 o0 + m, by simp [Bs], by omega, ⟨by omega, by omega, by have := nxt_ge (s := p0) (n := o0) hm; omega, by omega⟩, ?_⟩
      unfold LexLe
      omega
    · refine ⟨o0, by simp [As], nxt m p0 o0, by simp [Bs], fun e => q e.symm, ⟨by omega, by omega, nxt_ge hm, by omega⟩, ?_⟩
      unfold LexLe
      omega
  · have dv' : m ∣ (a - (b - p0)) - p0 := by
      have e : (a - (b - p0)) - p0 = a - b := by omega
      rw [e]
      exact dv
    have z := nxt_min (s := o0) hm (by omega) dv'
    have tw : ∀ x, m ∣ x - p0 → nxt m p0 x = p0 := fun x hx => by
      have z := nxt_min (m := m) (s := p0) (n := x) (x := p0) hm (Int.le_refl _) (dvd_sy hx)
      have := nxt_ge (m := m) (s := p0) (n := x) hm
      omega
    by_cases q : nxt m o0 p0 = p0
    · have e := tw (nxt m o0 p0 + m) (by
        have e : nxt m o0 p0 + m - p0 = (nxt m o0 p0 - p0) + m := by omega
        rw [e]
        exact Int.dvd_add nxt_dvd (Int.dvd_refl m))
      refine ⟨nxt m o0 p0 + m, by simp [As], p0, by simp [Bs, e], by omega, ⟨by have := nxt_ge (s := o0) (n := p0) hm; omega, by omega, by omega, by omega⟩, ?_⟩
      unfold LexLe
      omega
    · have e := tw (nxt m o0 p0) nxt_dvd
      refine ⟨nxt m o0 p0, by simp [As], p0, by simp [Bs, e], q, ⟨nxt_ge hm, by omega, by omega, by omega⟩, ?_⟩
      unfold LexLe
      omega
/-- cuts are alike just if the numbers differ by a multiple -/
theorem cut_iff {m lo a b : Int} : lo + (a - lo) % m = lo + (b - lo) % m ↔ m ∣ a - b := by
  constructor
  · intro h
    have e : (a - lo) % m = (b - lo) % m := by omega
    have z := Int.emod_emod_of_dvd
    have := Int.dvd_of_emod_eq_zero (Int.emod_eq_emod_iff_emod_sub_eq_zero.mp e)
    have e2 : (a - lo) - (b - lo) = a - b := by omega
    rw [e2] at this
    exact this
  · intro h
    have e2 : (a - lo) - (b - lo) = a - b := by omega
    have e : (a - lo) % m = (b - lo) % m := Int.emod_eq_emod_iff_emod_sub_eq_zero.mpr (Int.emod_eq_zero_of_dvd (by rw [e2]; exact h))
    omega
/-! ### the order of cuts: the mathematics -/
/-- the place of x in its block -/
def pl (lo m x : Int) : Int := (x - lo) % m
theorem pl_ge {lo m x : Int} (hm : 0 < m) : 0 ≤ pl lo m x := Int.emod_nonneg _ (by omega)
theorem pl_lt {lo m x : Int} (hm : 0 < m) : pl lo m x < m := Int.emod_lt_of_pos _ hm
theorem pl_eq {lo m x y : Int} : pl lo m x = pl lo m y ↔ m ∣ x - y := by
  have h := cut_iff (m := m) (lo := lo) (a := x) (b := y)
  unfold pl
  constructor
  · intro e
    exact h.mp (by omega)
  · intro e
    have := h.mpr e
    omega
theorem pl_lo {lo m : Int} : pl lo m lo = 0 := by
  unfold pl
  rw [Int.sub_self, Int.zero_emod]
/-- from x to x + 1 the place goes up by one, or begins anew -/
theorem pl_step {lo m x : Int} (hm : 0 < m) : pl lo m (x + 1) = pl lo m x + 1 ∨ (pl lo m (x + 1) = 0 ∧ pl lo m x = m - 1) := by
  have h0 := pl_ge (lo := lo) (x := x) hm
  have h1 := pl_lt (lo := lo) (x := x) hm
  have dv : m ∣ (x - lo) - pl lo m x := Int.dvd_self_sub_emod
  by_cases q : pl lo m x = m - 1
  · refine .inr ⟨?_, q⟩
    have d2 : m ∣ (x + 1) - lo := by
      have e : (x + 1) - lo = ((x - lo) - pl lo m x) + m := by omega
      rw [e]
      exact Int.dvd_add dv (Int.dvd_refl m)
    rw [pl_eq.mpr d2, pl_lo]
  · refine .inl ?_
    have e : pl lo m (x + 1) = pl lo m (lo + (pl lo m x + 1)) := pl_eq.mpr (by
      have e : (x + 1) - (lo + (pl lo m x + 1)) = (x - lo) - pl lo m x := by omega
      rw [e]
      exact dv)
    rw [e]
    have e2 : lo + (pl lo m x + 1) - lo = pl lo m x + 1 := by omega
    show (lo + (pl lo m x + 1) - lo) % m = pl lo m x + 1
    rw [e2]
    exact Int.emod_eq_of_lt (by omega) (by omega)
def Wr (lo m a b : Int) : Prop := ¬ (pl lo m a < pl lo m b ↔ a < b)
theorem wr_iff {lo m a b : Int} : Wr lo m a b ↔ (a < b ∧ pl lo m b ≤ pl lo m a) ∨ (b ≤ a ∧ pl lo m a < pl lo m b) := by
  unfold Wr
  constructor
  · intro h
    by_cases c : a < b
    · by_cases d : pl lo m a < pl lo m b
      · exact absurd ⟨fun _ => c, fun _ => d⟩ h
      · exact .inl ⟨c, by omega⟩
    · by_cases d : pl lo m a < pl lo m b
      · exact .inr ⟨by omega, d⟩
      · exact absurd ⟨fun z => absurd z d, fun z => absurd z c⟩ h
  · rintro (⟨c, d⟩ | ⟨c, d⟩) h
    · have := h.mpr c
      omega
    · have := h.mp d
      omega
def As2 (lo m o0 p0 : Int) : List Int := [o0, nxt m o0 p0, nxt m (if o0 ≥ p0 + 1 then o0 else p0 + 1) lo]
def Bs2 (lo m p0 a : Int) : List Int := [p0, nxt m p0 (a + 1), nxt m (if p0 ≥ a + 1 then p0 else a + 1) lo]
/-- for one a: a wrong b that is looked at, not above -/
theorem down_b {lo m p0 a : Int} (hm : 0 < m) : ∀ (k : Nat) (b : Int), (b - p0).toNat = k → p0 ≤ b → Wr lo m a b → ∃ b' ∈ Bs2 lo m p0 a, p0 ≤ b' ∧ b' ≤ b ∧ Wr lo m a b' := by
  intro k
  induction k with
  | zero =>
    intro b hk hb w
    have e : b = p0 := by omega
    exact ⟨p0, by simp [Bs2], Int.le_refl _, hb, by rw [← e]; exact w⟩
  | succ k ih =>
    intro b hk hb w
    by_cases w' : Wr lo m a (b - 1)
    · obtain ⟨b', h1, h2, h3, h4⟩ := ih (b - 1) (by omega) (by omega) w'
      exact ⟨b', h1, h2, by omega, h4⟩
    · rw [wr_iff] at w
      have n1 := fun h => w' (wr_iff.mpr h)
      have st := pl_step (lo := lo) (x := b - 1) hm
      have eb : b - 1 + 1 = b := by omega
      rw [eb] at st
      have g1 := pl_ge (lo := lo) (x := a) hm
      rcases w with ⟨c, d⟩ | ⟨c, d⟩
      · -- the cuts begin anew with b
        have z : pl lo m b = 0 := by
          rcases st with st | ⟨st, _⟩
          · by_cases q : a < b - 1
            · have l : pl lo m a < pl lo m (b - 1) := by
                by_cases q2 : pl lo m (b - 1) ≤ pl lo m a
                · exact (n1 (.inl ⟨q, q2⟩)).elim
                · omega
              omega
            · have e : a = b - 1 := by omega
              rw [e] at d
              omega
          · exact st
        have dv : m ∣ b - lo := pl_eq.mp (by rw [z, pl_lo])
        obtain ⟨s, hs, s1, s2, s3⟩ : ∃ s, s = (if p0 ≥ a + 1 then p0 else a + 1) ∧ p0 ≤ s ∧ a + 1 ≤ s ∧ s ≤ b := ⟨_, rfl, by split <;> omega, by split <;> omega, by split <;> omega⟩
        have mn := nxt_min (s := s) hm s3 dv
        have ge := nxt_ge (s := s) (n := lo) hm
        have e0 : pl lo m (nxt m s lo) = 0 := by
          rw [pl_eq.mpr (nxt_dvd (m := m) (s := s) (n := lo)), pl_lo]
        exact ⟨nxt m s lo, by simp [Bs2, hs], by omega, by omega, wr_iff.mpr (.inl ⟨by omega, by omega⟩)⟩
      · have n2 : pl lo m (b - 1) ≤ pl lo m a := by
          by_cases q : pl lo m a < pl lo m (b - 1)
          · exact (n1 (.inr ⟨by omega, q⟩)).elim
          · omega
        have e1 : pl lo m b = pl lo m (a + 1) := by
          have sa := pl_step (lo := lo) (x := a) hm
          rcases st with st | ⟨st, _⟩
          · have e : pl lo m (b - 1) = pl lo m a := by omega
            have dv := pl_eq.mp e
            apply pl_eq.mpr
            have e : b - (a + 1) = b - 1 - a := by omega
            rw [e]
            exact dv
          · omega
        have dv := pl_eq.mp e1
        have mn := nxt_min (s := p0) hm hb dv
        refine ⟨nxt m p0 (a + 1), by simp [Bs2], nxt_ge hm, by omega, wr_iff.mpr (.inr ⟨by omega, ?_⟩)⟩
        rw [pl_eq.mpr (nxt_dvd (m := m) (s := p0) (n := a + 1)), ← e1]
        exact d
/-- a wrong pair with a first number that is looked at, not above -/
theorem down_a {lo m o0 p0 p1 : Int} (hm : 0 < m) : ∀ (k : Nat) (a b : Int), (a - o0).toNat ≤ k → o0 ≤ a → p0 ≤ b → b ≤ p1 → Wr lo m a b →
    ∃ a' ∈ As2 lo m o0 p0, ∃ b', o0 ≤ a' ∧ a' ≤ a ∧ p0 ≤ b' ∧ b' ≤ p1 ∧ Wr lo m a' b' ∧ LexLe a' b' a b := by
  intro k
  induction k with
  | zero =>
    intro a b hk ha hb1 hb2 w
    have e : a = o0 := by omega
    exact ⟨a, by simp [As2, e], b, ha, Int.le_refl _, hb1, hb2, w, .inr ⟨rfl, Int.le_refl _⟩⟩
  | succ k ih =>
    intro a b hk ha hb1 hb2 w
    by_cases lower : ∃ x y, o0 ≤ x ∧ x < a ∧ p0 ≤ y ∧ y ≤ p1 ∧ Wr lo m x y
    · obtain ⟨x, y, h1, h2, h3, h4, h5⟩ := lower
      obtain ⟨a', m1, b', q1, q2, q3, q4, q5, q6⟩ := ih x y (by omega) h1 h3 h4 h5
      exact ⟨a', m1, b', q1, by omega, q3, q4, q5, .inl (by omega)⟩
    · by_cases e0 : a = o0
      · exact ⟨a, by simp [As2, e0], b, ha, Int.le_refl _, hb1, hb2, w, .inr ⟨rfl, Int.le_refl _⟩⟩
      · have no : ∀ x y, o0 ≤ x → x < a → p0 ≤ y → y ≤ p1 → ¬ Wr lo m x y := fun x y h1 h2 h3 h4 h5 => lower ⟨x, y, h1, h2, h3, h4, h5⟩
        have own : a ∈ As2 lo m o0 p0 := by
          have w0 := w
          rw [wr_iff] at w
          have st := pl_step (lo := lo) (x := a - 1) hm
          have ea : a - 1 + 1 = a := by omega
          rw [ea] at st
          have n1 := fun h => no (a - 1) b (by omega) (by omega) hb1 hb2 (wr_iff.mpr h)
          rcases w with ⟨c, d⟩ | ⟨c, d⟩
          · -- the cut of a reaches that of the first of other
            have l1 : pl lo m (a - 1) < pl lo m b := by
              by_cases q : pl lo m b ≤ pl lo m (a - 1)
              · exact (n1 (.inl ⟨by omega, q⟩)).elim
              · omega
            have eq : pl lo m a = pl lo m b := by
              rcases st with st | ⟨st, _⟩
              · omega
              · have := pl_ge (lo := lo) (x := a - 1) hm
                omega
            have bp : b = p0 := by
              by_cases q : b = p0
              · exact q
              · have e : pl lo m (a - 1) = pl lo m (b - 1) := pl_eq.mpr (by
                  have e : a - 1 - (b - 1) = a - b := by omega
                  rw [e]
                  exact pl_eq.mp eq)
                exact (no (a - 1) (b - 1) (by omega) (by omega) (by omega) (by omega) (wr_iff.mpr (.inl ⟨by omega, by omega⟩))).elim
            rw [bp] at eq c
            have dv := pl_eq.mp eq
            have mn := nxt_min (s := o0) hm ha dv
            rcases mn with mn | mn
            · rw [mn]
              simp [As2]
            · exact (no (nxt m o0 p0) p0 (nxt_ge hm) (by omega) (Int.le_refl _) (by omega) (wr_iff.mpr (.inl ⟨by omega, by rw [pl_eq.mpr (nxt_dvd (m := m) (s := o0) (n := p0))]; exact Int.le_refl _⟩))).elim
          · have ne : a ≠ b := fun e => by rw [e] at d; omega
            have l1 : pl lo m b ≤ pl lo m (a - 1) := by
              by_cases q : pl lo m (a - 1) < pl lo m b
              · exact (n1 (.inr ⟨by omega, q⟩)).elim
              · omega
            have z : pl lo m a = 0 := by omega
            have dv : m ∣ a - lo := pl_eq.mp (by rw [z, pl_lo])
            obtain ⟨s, hs, s1, s2, s3⟩ : ∃ s, s = (if o0 ≥ p0 + 1 then o0 else p0 + 1) ∧ o0 ≤ s ∧ p0 + 1 ≤ s ∧ s ≤ a := ⟨_, rfl, by split <;> omega, by split <;> omega, by split <;> omega⟩
            have mn := nxt_min (s := s) hm s3 dv
            have ge := nxt_ge (s := s) (n := lo) hm
            rcases mn with mn | mn
            · rw [mn]
              simp [As2, hs]
            · exfalso
              have z0 : pl lo m (nxt m s lo) = 0 := by
                rw [pl_eq.mpr (nxt_dvd (m := m) (s := s) (n := lo)), pl_lo]
              generalize hx : nxt m s lo = x at *
              have x1 : o0 ≤ x := by omega
              have x2 : p0 + 1 ≤ x := by omega
              by_cases q : pl lo m p0 = 0
              · have sp := pl_step (lo := lo) (x := p0) hm
                have lb := pl_lt (lo := lo) (x := b) hm
                have m2 : 2 ≤ m := by omega
                have s1 : pl lo m (p0 + 1) = 1 := by omega
                have xp : p0 + 1 ≠ x := fun e => by rw [e, z0] at s1; omega
                have bp : b ≠ p0 := fun e => by rw [e, q] at d; omega
                exact no x (p0 + 1) x1 (by omega) (by omega) (by omega) (wr_iff.mpr (.inr ⟨by omega, by omega⟩))
              · have := pl_ge (lo := lo) (x := p0) hm
                exact no x p0 x1 (by omega) (Int.le_refl _) (by omega) (wr_iff.mpr (.inr ⟨by omega, by omega⟩))
        exact ⟨a, own, b, ha, Int.le_refl _, hb1, hb2, w, .inr ⟨rfl, Int.le_refl _⟩⟩
theorem cands2 {lo m o0 o1 p0 p1 a b : Int} (hm : 0 < m) (i : InR o0 o1 p0 p1 a b) (w : Wr lo m a b) :
    ∃ a' ∈ As2 lo m o0 p0, ∃ b' ∈ Bs2 lo m p0 a', Wr lo m a' b' ∧ InR o0 o1 p0 p1 a' b' ∧ LexLe a' b' a b := by
  obtain ⟨h1, h2, h3, h4⟩ := i
  obtain ⟨a', m1, b1, q1, q2, q3, q4, q5, q6⟩ := down_a hm _ a b (Nat.le_refl _) h1 h3 h4 w
  obtain ⟨b', m2, r1, r2, r3⟩ := down_b hm _ b1 rfl q3 q5
  refine ⟨a', m1, b', m2, r3, ⟨q1, by omega, r1, by omega⟩, ?_⟩
  unfold LexLe at *
  omega
/-! ### windows -/
abbrev s_is_span : Stmt := (top 15)
abbrev N_is_span : List Str := ["value", "first", "last"]
abbrev P_is_span : List Str := ["value"]
theorem sc_is_span : FnScope N_is_span P_is_span (defScope s_is_span) := ⟨rfl, rfl, rfl, by decide +kernel, rfl, by decide +kernel, by decide +kernel⟩
abbrev s__check_spans : Stmt := (top 22)
abbrev N__check_spans : List Str := ["one", "other", "value"]
abbrev P__check_spans : List Str := ["one", "other"]
theorem sc__check_spans : FnScope N__check_spans P__check_spans (defScope s__check_spans) := ⟨rfl, rfl, rfl, by decide +kernel, rfl, by decide +kernel, by decide +kernel⟩
abbrev s_BadSpan___init__ : Stmt := (inClass (top 6) 0)
abbrev N_BadSpan___init__ : List Str := ["self", "value"]
abbrev P_BadSpan___init__ : List Str := ["self", "value"]
theorem sc_BadSpan___init__ : FnScope N_BadSpan___init__ P_BadSpan___init__ (defScope s_BadSpan___init__) := ⟨rfl, rfl, rfl, by decide +kernel, rfl, by decide +kernel, by decide +kernel⟩
abbrev s__next_like : Stmt := (top 20)
abbrev N__next_like : List Str := ["kind", "start", "number"]
abbrev P__next_like : List Str := ["kind", "start", "number"]
theorem sc__next_like : FnScope N__next_like P__next_like (defScope s__next_like) := ⟨rfl, rfl, rfl, by decide +kernel, rfl, by decide +kernel, by decide +kernel⟩
abbrev s__least : Stmt := (top 21)
abbrev N__least : List Str := ["pairs", "one", "other", "found", "a", "b"]
abbrev P__least : List Str := ["pairs", "one", "other"]
theorem sc__least : FnScope N__least P__least (defScope s__least) := ⟨rfl, rfl, rfl, by decide +kernel, rfl, by decide +kernel, by decide +kernel⟩

section
variable {H : Hp} {Q : VK} {v : V} {p t : Addr} {a b x y : Int}
theorem rd_ltT {s : Addr} (h : H s = some (.tup [.int a, .int b])) (h' : H t = some (.tup [.int x, .int y])) (k : Q (.bl (decide (a < x ∨ (a = x ∧ b < y)))) H) : rLtT K (.ref s) (.ref t) H Q := by
  refine ⟨s, t, [a, b], [x, y], rfl, rfl, SqT.of h, SqT.of h', ?_⟩
  have e : HT.lexLt [a, b] [x, y] = decide (a < x ∨ (a = x ∧ b < y)) := by
    rw [HT.lexLt_cons]
    by_cases q : a = x
    · rw [if_pos q, HT.lexLt_cons]
      by_cases q2 : b = y
      · rw [if_pos q2, HT.lexLt_nil_nil]
        exact (decide_eq_false (by omega)).symm
      · rw [if_neg q2]
        by_cases q3 : b < y
        · rw [decide_eq_true q3]
          exact (decide_eq_true (by omega)).symm
        · rw [decide_eq_false q3]
          exact (decide_eq_false (by omega)).symm
    · rw [if_neg q]
      by_cases q3 : a < x
      · rw [decide_eq_true q3]
        exact (decide_eq_true (by omega)).symm
      · rw [decide_eq_false q3]
        exact (decide_eq_false (by omega)).symm
  rw [e]
  exact k
end
/-- a span stands at p -/
def Span (H : Hp) (p : Addr) (a b : Int) : Prop := H p = some (.tup [.int a, .int b]) ∧ a ≤ b
theorem Span.same {H H' : Hp} {p : Addr} {a b : Int} (h : Span H p a b) (s : Same H H') : Span H' p a b := ⟨s _ _ h.1, h.2⟩
/-- a value without parts -/
inductive Flat : V → Prop
  | non : Flat .non
  | bl (b : Bool) : Flat (.bl b)
  | int (i : Int) : Flat (.int i)
  | str (x : Str) : Flat (.str x)
theorem Flat.plain {H : Hp} {v : V} (h : Flat v) : Plain H v := by
  cases h with
  | non => exact .non
  | bl b => exact .bl b
  | int i => exact .int i
  | str x => exact .str x
def okS (x y : V) : Bool := match x, y with
  | .int a, .int b => decide (a ≤ b)
  | _, _ => false
/-- a value, and whether it is a span -/
inductive SV (H : Hp) : V → Bool → Prop
  | flat {v : V} (f : Flat v) : SV H v false
  | lst {a : Addr} {xs : List V} (n : xs.length ≠ 3) (e : H a = some (.lst xs)) : SV H (.ref a) false
  | dK {a : Addr} {kvs : List (Key × V)} (e : H a = some (.dK kvs)) : SV H (.ref a) false
  | tup {a : Addr} {xs : List V} (n : xs.length ≠ 2) (l : xs.length ≤ 1000) (e : H a = some (.tup xs)) : SV H (.ref a) false
  | pair {a : Addr} {x y : V} (fx : Flat x) (fy : Flat y) (e : H a = some (.tup [x, y])) : SV H (.ref a) (okS x y)
theorem SV.same {H H' : Hp} {v : V} {b : Bool} (h : SV H v b) (s : Same H H') : SV H' v b := by
  cases h with
  | flat f => exact .flat f
  | lst n e => exact .lst n (s _ _ e)
  | dK e => exact .dK (s _ _ e)
  | tup n l e => exact .tup n l (s _ _ e)
  | pair fx fy e => exact .pair fx fy (s _ _ e)
theorem isI_int {v : V} (h : isI v = true) : ∃ n, v = .int n := by
  cases v <;> first | exact ⟨_, rfl⟩ | cases h
theorem okS_no {x y : V} (h : isI x = false ∨ isI y = false) : okS x y = false := by
  cases x <;> cases y <;> first | rfl | (rcases h with h | h <;> cases h)
theorem span_of {H : Hp} {v : V} (h : SV H v true) : ∃ p a b, v = .ref p ∧ Span H p a b := by
  generalize q : true = t at h
  cases h with
  | flat f => cases q
  | lst n e => cases q
  | dK e => cases q
  | tup n l e => cases q
  | @pair a x y fx fy e =>
    cases x <;> cases y <;> first | cases q | skip
    rename_i i j
    exact ⟨a, i, j, rfl, e, of_decide_eq_true q.symm⟩
theorem spans_of {H : Hp} {u v : V} {b1 b2 : Bool} (h1 : SV H u b1) (h2 : SV H v b2) (hb : (b1 && b2) = true) : ∃ p q o0 o1 p0 p1, u = .ref p ∧ v = .ref q ∧ Span H p o0 o1 ∧ Span H q p0 p1 := by
  obtain ⟨rfl, rfl⟩ := Bool.and_eq_true_iff.mp hb
  obtain ⟨p, a, b, rfl, s1⟩ := span_of h1
  obtain ⟨q, c, d, rfl, s2⟩ := span_of h2
  exact ⟨p, q, a, b, c, d, rfl, rfl, s1, s2⟩
def spSV : Sp := fun vs H Q _ => ∃ (v : V) (b : Bool), vs = [v] ∧ SV H v b ∧ Q (.bl b) H
theorem iteNS' {c : Prop} [Decidable c] {A B : Prop} (h : ¬ c) (k : A) : if (!decide c) = true then A else B := by
  rw [decide_eq_false h]
  exact iteT k
theorem ok_is_span {f : Addr} {fd : FuncData} (F : Fun K "is_span" "is_span" s_is_span f fd) (T : Txt mg) (c_is : Cal P w K mg base 1 "is_integer" P_is_integer spIsInt) : FnOk P w K mg base CX0 2 f fd P_is_span spSV := by
  obtain ⟨f_is, fd_is, G_is_integer, b_is_integer, g_is_integer, k_is_integer⟩ := c_is
  refine F.ok sc_is_span (fun vs H Q E h => ?_) (fun cdv A outer s H vs Q E hr h => ?_)
  · obtain ⟨v, b, rfl, _⟩ := h
    rfl
  · obtain ⟨v, b, rfl, hv, k⟩ := h
    refine ⟨_, (pss_cons (ps_if (PW.pt (pw_or (pt_not (pt_val (pe_callB call_isi (by rfl) T.n_isinstance (by decide +kernel) (pa_cons (pv 0) (pa_cons (pe_bltn (v := .ty "tuple") (by rfl) T.n_tuple (by decide +kernel) rfl) pa_nil))))) (pw_or1 (pt_cmpR op_ne (pe_callB call_len_seq (by rfl) T.n_len (by decide +kernel) (pa_cons (pv 0) pa_nil)) pe_int (nomark _))))) (pss_one (ps_ret pe_bl)) pss_nil)
      (pss_cons (ps_asg (pv 0) (pg_tup rfl (pgs_cons (pg_name (i := 1) sc_is_span.nd rfl (Or.inl rfl)) (pgs_cons (pg_name (i := 2) sc_is_span.nd rfl (Or.inl rfl)) pgs_nil))))
      (pss_one (ps_ret (pe_and (pe_call G_is_integer (hr.mono (by decide)) rfl g_is_integer k_is_integer b_is_integer .nil pass0 (pa_cons (pv 1) pa_nil)) (pe_and (pe_call G_is_integer (hr.mono (by decide)) rfl g_is_integer k_is_integer b_is_integer .nil pass0 (pa_cons (pv 2) pa_nil)) (pe_one (pe_cmpR op_le (pv 1) (pv 2) (nomark _))))))))), ?_⟩
    fail "z run"
    cases hv with
    | flat fl =>
      cases fl with
      | non =>
        refine rd_isi (.base .non) (b := false) (by decide +kernel) ?_
        fail "z run"
        refine iteT ?_
        fail "z run"
        exact k
      | bl b =>
        refine rd_isi (.base (.bl b)) (b := false) (by decide +kernel) ?_
        fail "z run"
        refine iteT ?_
        fail "z run"
        exact k
      | int b =>
        refine rd_isi (.base (.int b)) (b := false) (by decide +kernel) ?_
        fail "z run"
        refine iteT ?_
        fail "z run"
        exact k
      | str b =>
        refine rd_isi (.base (.str b)) (b := false) (by decide +kernel) ?_
        fail "z run"
        refine iteT ?_
        fail "z run"
        exact k
    | lst n e =>
      refine rd_isi (.base (.lst e)) (b := false) (by decide +kernel) ?_
      fail "z run"
      refine iteT ?_
      fail "z run"
      exact k
    | dK e =>
      refine rd_isi (.base (.dK e)) (b := false) (by decide +kernel) ?_
      fail "z run"
      refine iteT ?_
      fail "z run"
      exact k
    | @tup a xs n l e =>
      refine rd_isi (.base (.tup e)) (b := true) (by decide +kernel) ?_
      fail "z run"
      refine iteF ?_
      fail "z run"
      refine rd_iteN (fun _ => ?_) (fun z => ?_)
      · fail "z run"
        exact k
      · exact absurd (by have z' := V.int.inj z; omega) n
    | @pair a x y fx fy e =>
      refine rd_isi (.base (.tup e)) (b := true) (by decide +kernel) ?_
      fail "z run"
      refine iteF ?_
      fail "z run"
      refine iteNS rfl ?_
      fail "z run"
      refine rd_gtup e rfl ?_
      fail "z run"
      refine ⟨_, rfl, fx.plain, ?_⟩
      fail "z run"
      refine rd_iteB (fun h1 => ?_) (fun h1 => ?_)
      · obtain ⟨i, rfl⟩ := isI_int h1
        fail "z run"
        refine ⟨_, rfl, fy.plain, ?_⟩
        fail "z run"
        refine rd_iteB (fun h2 => ?_) (fun h2 => ?_)
        · obtain ⟨j, rfl⟩ := isI_int h2
          fail "z run"
          exact k
        · rw [okS_no (.inr h2)] at k
          exact k
      · rw [okS_no (.inl h1)] at k
        exact k
/-- an error's class, called -/
def CalE (P : Program) (w : World) (K : PySem.W.Frag) (mg : Str → Option Value) (base : Heap) (C : Addr) (ps : List Str) : Prop :=
  ∃ (f : Addr) (fd : FuncData), PySem.W.findIn K (.ref C) "__init__" = some (some (.ref f)) ∧ PySem.W.typeIn K (.ref f) = some (.type "function") ∧ FnOk P w K mg base CX0 1 f fd ps (spBad C) ∧ Binds K fd ps []
theorem ok_BadSpan {f C CW : Addr} {fd : FuncData} (F : Fun K "__init__" "BadSpan.__init__" s_BadSpan___init__ f fd) (ET : ErrT K mg CW C "BadSpan") : FnOk P w K mg base CX0 1 f fd P_BadSpan___init__ (spBad C) := by
  refine F.ok sc_BadSpan___init__ (fun vs H Q E h => ?_) (fun cdv A outer s H vs Q E hr h => ?_)
  · obtain ⟨a, v, rfl, _⟩ := h
    rfl
  · obtain ⟨a, v, rfl, e, k⟩ := h
    refine ⟨_, (pss_one (ps_ost (pv 0) (pv 1))), ?_⟩
    unfold tOst
    fail "z go"
    exact rd_ost ET.ox ET.nv e k
def CalX (P : Program) (w : World) (K : PySem.W.Frag) (mg : Str → Option Value) (base : Heap) (k : Nat) (x : Str) (ps : List Str) (sp : Sp) : Prop :=
  ∃ (f : Addr) (fd : FuncData), FnOk P w K mg base (L2.CX P w) k f fd ps sp ∧ Binds K fd ps [] ∧ mg x = some (.ref f) ∧ PySem.W.keepIn K (.ref f) = true
def spCheckX (CB : Addr) : Sp := fun vs H Q E => ∃ (u v : V) (b1 b2 : Bool), vs = [u, v] ∧ SV H u b1 ∧ SV H v b2 ∧ ((b1 && b2) = true → ∀ H', Same H H' → Q .non H') ∧
  ((b1 && b2) = false → ∀ d H', Same H H' → H' d = some (.xd [("value", if b1 = true then v else u)]) → E (.ref CB) (some d) H')
def spWinX (C CB : Addr) : Sp := fun vs H Q E => ∃ (kd : Addr) (u v : V) (lo hi : Int) (b1 b2 : Bool), vs = [.ref kd, u, v] ∧ IsKind C H kd lo hi ∧ lo ≤ 0 ∧ 0 ≤ hi ∧ SV H u b1 ∧ SV H v b2 ∧ ((b1 && b2) = true → ∀ r H', Same H H' → Q r H') ∧
  ((b1 && b2) = false → ∀ d H', Same H H' → H' d = some (.xd [("value", if b1 = true then v else u)]) → E (.ref CB) (some d) H')
theorem ok_check {f CW C_BadSpan : Addr} {fd : FuncData} (F : Fun K "_check_spans" "_check_spans" s__check_spans f fd) (ET_BadSpan : ErrT K mg CW C_BadSpan "BadSpan") (c_sp : Cal P w K mg base 2 "is_span" P_is_span spSV) (c_bad : CalE P w K mg base C_BadSpan P_BadSpan___init__) :
    FnOk P w K mg base (L2.CX P w) 3 f fd P__check_spans (spCheckX C_BadSpan) := by
  obtain ⟨f_is, fd_is, G_is_span, b_is_span, g_is_span, k_is_span⟩ := c_sp
  obtain ⟨f_b, fd_b, i_BadSpan, t_BadSpan, G_BadSpan, b_BadSpan⟩ := c_bad
  have g_BadSpan := ET_BadSpan.g
  refine F.okX sc__check_spans (fun vs H Q E h => ?_) (fun cdv A outer s H vs Q E hr h => ?_)
  · obtain ⟨u, v, b1, b2, rfl, _⟩ := h
    rfl
  · obtain ⟨u, v, b1, b2, rfl, hu, hv, k1, k2⟩ := h
    refine ⟨_, (pss_one (ps_for (passes_of rfl) rfl (pi_tup (pe_tup (pa_cons (pv 0) (pa_cons (pv 1) pa_nil)))) (pg_name (i := 2) sc__check_spans.nd rfl (Or.inl rfl)) (pss_one (ps_if (pt_not (pt_val (pe_call G_is_span (hr.mono (by decide)) rfl g_is_span k_is_span b_is_span .nil pass0 (pa_cons (pv 2) pa_nil)))) (pss_one (ps_raise rfl (takes_of rfl rfl rfl rfl) (pmk_oex ET_BadSpan.ox i_BadSpan t_BadSpan G_BadSpan (hr.mono (by decide)) b_BadSpan .nil pass0 rfl g_BadSpan (pa_cons (pv 2) pa_nil)))) pss_nil)))), ?_⟩
    unfold tMkO
    with_reducible refine rd_for ?_
    with_reducible refine rd_iT ?_
    fail "z run"
    intro t ht
    refine rd_iTa upd_same (for_tup (K := K) (a := t) (xs := [u, v]) (fun i σ H' => (i ≥ 1 → b1 = true) ∧ (i ≥ 2 → b2 = true) ∧ ∃ x, σ = [some u, some v, x] ∧ Same (upd H t (.tup [u, v])) H')
      ⟨fun z => absurd z (by decide), fun z => absurd z (by decide), none, rfl, Same.refl _⟩ (fun i σ H' _ ⟨_, _, _, _, s⟩ => SqT.of (s _ _ upd_same)) ?_ ?_)
    · rintro i x σ H' hx ⟨g1, g2, x2, rfl, s⟩
      have s0 : Same H H' := (same_new ht).trans s
      rcases i with _ | _ | i
      · cases hx
        fail "z run"
        refine ⟨_, _, rfl, hu.same s0, ?_⟩
        fail "z run"
        refine rd_iteB (fun hb => ?_) (fun hb => ?_)
        · have e : b1 = false := by cases b1 with | false => rfl | true => cases hb
          fail "z run"
          refine rd_bad fun d H2 nd S ed => k2 (by rw [e]; rfl) d H2 (s0.trans S) ?_
          rw [e]
          exact ed
        · fail "z run"
          exact ⟨fun _ => (by cases b1 with | true => rfl | false => cases hb), fun z => absurd z (by decide), _, rfl, s⟩
      · cases hx
        have e1 := g1 (by decide)
        fail "z run"
        refine ⟨_, _, rfl, hv.same s0, ?_⟩
        fail "z run"
        refine rd_iteB (fun hb => ?_) (fun hb => ?_)
        · have e : b2 = false := by cases b2 with | false => rfl | true => cases hb
          fail "z run"
          refine rd_bad fun d H2 nd S ed => k2 (by rw [e, Bool.and_false]) d H2 (s0.trans S) ?_
          rw [e1]
          exact ed
        · fail "z run"
          exact ⟨fun _ => e1, fun _ => (by cases b2 with | true => rfl | false => cases hb), _, rfl, s⟩
      · simp at hx
    · rintro σ H' ⟨g1, g2, x2, rfl, s⟩
      exact k1 (by rw [g1 (by simp), g2 (by simp)]; rfl) H' ((same_new ht).trans s)

def spNext (C : Addr) : Sp := fun vs H Q _ => ∃ (kd : Addr) (lo hi s n : Int), vs = [.ref kd, .int s, .int n] ∧ IsKind C H kd lo hi ∧ lo ≤ 0 ∧ 0 ≤ hi ∧ Q (.int (nxt (hi - lo + 1) s n)) H
theorem ok_next {f C : Addr} {fd : FuncData} (F : Fun K "_next_like" "_next_like" s__next_like f fd) (KT : KindT K C) : FnOk P w K mg base CX0 1 f fd P__next_like (spNext C) := by
  refine F.ok sc__next_like (fun vs H Q E h => ?_) (fun cdv A outer s H vs Q E hr h => ?_)
  · obtain ⟨kd, lo, hi, s, n, rfl, _⟩ := h
    rfl
  · obtain ⟨kd, lo, hi, s, n, rfl, ⟨dx, hk⟩, h1, h2, k⟩ := h
    refine ⟨_, (pss_one (ps_ret (pe_op op_add (pv 1) (pe_op op_mod (pe_op op_sub (pv 2) (pv 1)) (pe_fld (pv 0) rfl))))), ?_⟩
    fail "z go"
    refine ⟨_, _, _, _, _, rfl, hk, KT.cl, KT.n_size, kf_size _ _, ?_⟩
    fail "z go"
    exact k

/-- the pairs that stand in a list: each tuple's address, its two numbers -/
def Prs (H : Hp) (zs : List (Addr × Int × Int)) : Prop := ∀ z ∈ zs, H z.1 = some (.tup [.int z.2.1, .int z.2.2])
theorem Prs.keep {H H' : Hp} {l : Addr} {zs : List (Addr × Int × Int)} {xs : List V} (h : Prs H zs) (hl : H l = some (.lst xs)) (k : Kp l H H') : Prs H' zs := fun z hz =>
  k _ _ (fun e => by rw [← e, h z hz] at hl; cases hl) (h z hz)
theorem Prs.same {H H' : Hp} {zs : List (Addr × Int × Int)} (h : Prs H zs) (k : Same H H') : Prs H' zs := fun z hz => k _ _ (h z hz)
def spLeast : Sp := fun vs H Q _ => ∃ (l p q : Addr) (zs : List (Addr × Int × Int)) (o0 o1 p0 p1 : Int), vs = [.ref l, .ref p, .ref q] ∧ H l = some (.lst (zs.map fun z => V.ref z.1)) ∧ Prs H zs ∧ Span H p o0 o1 ∧ Span H q p0 p1 ∧
  (∀ H', Same H H' → (∀ z ∈ zs, ¬ InR o0 o1 p0 p1 z.2.1 z.2.2) → Q .non H') ∧
  (∀ t x y H', Same H H' → H' t = some (.tup [.int x, .int y]) → (∃ z ∈ zs, z.2 = (x, y)) → InR o0 o1 p0 p1 x y → (∀ z ∈ zs, InR o0 o1 p0 p1 z.2.1 z.2.2 → LexLe x y z.2.1 z.2.2) → Q (.ref t) H')
theorem take_mem {α : Type} {l : List α} {i : Nat} {x z : α} (h : l[i]? = some x) (hz : z ∈ l.take (i + 1)) : z ∈ l.take i ∨ z = x := by
  have h1 := (List.getElem?_eq_some_iff.mp h).1
  rw [List.take_add_one, h] at hz
  rcases List.mem_append.mp hz with q | q
  · exact .inl q
  · exact .inr (by simpa using q)
theorem ok_least {f : Addr} {fd : FuncData} (F : Fun K "_least" "_least" s__least f fd) : FnOk P w K mg base CX0 1 f fd P__least spLeast := by
  refine F.ok sc__least (fun vs H Q E h => ?_) (fun cdv A outer s H vs Q E hr h => ?_)
  · obtain ⟨l, p, q, zs, o0, o1, p0, p1, rfl, _⟩ := h
    rfl
  · obtain ⟨l, p, q, zs, o0, o1, p0, p1, rfl, hl, hz, hp, hq, k0, k1⟩ := h
    refine ⟨_, (pss_cons (ps_set (i := 3) sc__least.nd rfl (Or.inl rfl) pe_non)
      (pss_cons (ps_for PassesOwn.never rfl (pi_list (pv 0)) (pg_tup rfl (pgs_cons (pg_name (i := 4) sc__least.nd rfl (Or.inl rfl)) (pgs_cons (pg_name (i := 5) sc__least.nd rfl (Or.inl rfl)) pgs_nil))) (pss_one (ps_if (PW.pt (pw_and (pt_chain op_le op_le (pe_ix ix_tup (pv 1) pe_int (fun _ _ => rfl)) (pv 4) (pe_ix ix_tup (pv 1) pe_int (fun _ _ => rfl))) (pw_and1 (pt_chain op_le op_le (pe_ix ix_tup (pv 2) pe_int (fun _ _ => rfl)) (pv 5) (pe_ix ix_tup (pv 2) pe_int (fun _ _ => rfl)))))) (pss_one (ps_if (PW.pt (pw_or (pt_cmpR op_isN (pv 3) pe_non (nomark _)) (pw_or1 (pt_cmpR (op_ltT hr.units0) (pe_tup (pa_cons (pv 4) (pa_cons (pv 5) pa_nil))) (pv 3) (nomark _))))) (pss_one (ps_set (i := 3) sc__least.nd rfl (Or.inl rfl) (pe_tup (pa_cons (pv 4) (pa_cons (pv 5) pa_nil))))) pss_nil)) pss_nil)))
      (pss_one (ps_ret (pv 3))))), ?_⟩
    fail "z go"
    refine rd_for (rd_iL ?_)
    fail "z go"
    refine rd_iLa hl (for_list (K := K) (a := l) (xs := zs.map fun z => V.ref z.1) (fun i σ H' => ∃ f va vb, σ = [some (.ref l), some (.ref p), some (.ref q), some f, va, vb] ∧ Same H H' ∧
        ((f = .non ∧ ∀ z ∈ zs.take i, ¬ InR o0 o1 p0 p1 z.2.1 z.2.2) ∨ ∃ t x y, f = .ref t ∧ H' t = some (.tup [.int x, .int y]) ∧ (∃ z ∈ zs, z.2 = (x, y)) ∧ InR o0 o1 p0 p1 x y ∧ ∀ z ∈ zs.take i, InR o0 o1 p0 p1 z.2.1 z.2.2 → LexLe x y z.2.1 z.2.2))
      ⟨.non, none, none, rfl, Same.refl _, .inl ⟨rfl, fun z q => by simp at q⟩⟩ (fun i σ H' _ ⟨_, _, _, _, s, _⟩ => SqL.of (s _ _ hl)) ?_ ?_)
    · rintro i v σ H' hi ⟨f, va, vb, rfl, s, inv⟩
      rw [List.getElem?_map] at hi
      obtain ⟨z, hzi, rfl⟩ := Option.map_eq_some_iff.mp hi
      have zin : z ∈ zs := List.mem_of_getElem? hzi
      have tz := s _ _ (hz z zin)
      have tp := s _ _ hp.1
      have tq := s _ _ hq.1
      -- the pair is passed over
      have over : ¬ InR o0 o1 p0 p1 z.2.1 z.2.2 → ((f = .non ∧ ∀ z ∈ zs.take (i + 1), ¬ InR o0 o1 p0 p1 z.2.1 z.2.2) ∨ ∃ t x y, f = .ref t ∧ H' t = some (.tup [.int x, .int y]) ∧ (∃ z ∈ zs, z.2 = (x, y)) ∧ InR o0 o1 p0 p1 x y ∧ ∀ z ∈ zs.take (i + 1), InR o0 o1 p0 p1 z.2.1 z.2.2 → LexLe x y z.2.1 z.2.2) := fun out => by
        rcases inv with ⟨h1, h2⟩ | ⟨t, x, y, h1, h2, h3, h4, h5⟩
        · refine .inl ⟨h1, fun z hz => ?_⟩
          rcases take_mem hzi hz with q | rfl
          · exact h2 z q
          · exact out
        · refine .inr ⟨t, x, y, h1, h2, h3, h4, fun z hz hin => ?_⟩
          rcases take_mem hzi hz with q | rfl
          · exact h5 z q hin
          · exact absurd hin out
      refine rd_gtup tz rfl ?_
      fail "z go"
      refine rd_ite (fun c1 => ?_) (fun c1 => ?_)
      · fail "z go"
        refine rd_ite (fun c2 => ?_) (fun c2 => ?_)
        · fail "z go"
          refine rd_ite (fun c3 => ?_) (fun c3 => ?_)
          · fail "z go"
            refine rd_ite (fun c4 => ?_) (fun c4 => ?_)
            · have inr : InR o0 o1 p0 p1 z.2.1 z.2.2 := ⟨c1, c2, c3, c4⟩
              fail "z run"
              rcases inv with ⟨rfl, h2⟩ | ⟨t, x, y, rfl, h2, h3, h4, h5⟩
              · fail "z run"
                rw [decide_eq_true rfl]
                fail "z run"
                intro t ht
                fail "z run"
                refine ⟨.ref t, _, _, rfl, s.trans (same_new ht), .inr ⟨t, _, _, rfl, upd_same, ⟨z, zin, rfl⟩, inr, fun u hu hin => ?_⟩⟩
                rcases take_mem hzi hu with q | rfl
                · exact absurd hin (h2 u q)
                · exact .inr ⟨rfl, Int.le_refl _⟩
              · fail "z run"
                rw [decide_eq_false (fun e => V.noConfusion e)]
                fail "z run"
                intro t' ht
                fail "z run"
                refine rd_ltT upd_same ((upd_ne (ne_of_none h2 ht)).trans h2) ?_
                fail "z run"
                refine rd_ite (fun lt => ?_) (fun lt => ?_)
                · fail "z run"
                  intro t2 ht2
                  fail "z run"
                  refine ⟨.ref t2, _, _, rfl, (s.trans (same_new ht)).trans (same_new ht2), .inr ⟨t2, _, _, rfl, upd_same, ⟨z, zin, rfl⟩, inr, fun u hu hin => ?_⟩⟩
                  rcases take_mem hzi hu with q | rfl
                  · exact LexLe.trans (by unfold LexLe; omega) (h5 u q hin)
                  · exact .inr ⟨rfl, Int.le_refl _⟩
                · fail "z run"
                  refine ⟨.ref t, _, _, rfl, s.trans (same_new ht), .inr ⟨t, x, y, rfl, (upd_ne (ne_of_none h2 ht)).trans h2, h3, h4, fun u hu hin => ?_⟩⟩
                  rcases take_mem hzi hu with q | rfl
                  · exact h5 u q hin
                  · unfold LexLe
                    omega
            · fail "z run"
              exact ⟨f, _, _, rfl, s, over fun ⟨_, _, _, _⟩ => by omega⟩
          · fail "z run"
            exact ⟨f, _, _, rfl, s, over fun ⟨_, _, _, _⟩ => by omega⟩
        · fail "z run"
          exact ⟨f, _, _, rfl, s, over fun ⟨_, _, _, _⟩ => by omega⟩
      · fail "z run"
        exact ⟨f, _, _, rfl, s, over fun ⟨_, _, _, _⟩ => by omega⟩
    · rintro σ H' ⟨f, va, vb, rfl, s, inv⟩
      rw [List.length_map, List.take_length] at inv
      refine ⟨_, rfl, ?_⟩
      rcases inv with ⟨rfl, h2⟩ | ⟨t, x, y, rfl, h2, h3, h4, h5⟩
      · exact k0 H' s h2
      · exact k1 t x y H' s h2 h3 h4 h5

abbrev s_alike : Stmt := (top 16)
abbrev N_alike : List Str := ["kind", "one", "other", "start", "pairs", "a", "twin", "b"]
abbrev P_alike : List Str := ["kind", "one", "other"]
theorem sc_alike : FnScope N_alike P_alike (defScope s_alike) := ⟨rfl, rfl, rfl, by decide +kernel, rfl, by decide +kernel, by decide +kernel⟩

/-- what alike and the law's own search tell: none, or the least pair -/
def Rs (m o0 o1 p0 p1 : Int) (H : Hp) (v : V) : Prop := (v = .non ∧ ∀ a b, ¬ Valid m o0 o1 p0 p1 a b) ∨
  ∃ t x y, v = .ref t ∧ H t = some (.tup [.int x, .int y]) ∧ Valid m o0 o1 p0 p1 x y ∧ ∀ a b, Valid m o0 o1 p0 p1 a b → LexLe x y a b
def spAlike (C : Addr) : Sp := fun vs H Q _ => ∃ (kd p q : Addr) (lo hi o0 o1 p0 p1 : Int), vs = [.ref kd, .ref p, .ref q] ∧ IsKind C H kd lo hi ∧ lo ≤ 0 ∧ 0 ≤ hi ∧ Span H p o0 o1 ∧ Span H q p0 p1 ∧
  ∀ v H', Same H H' → Rs (hi - lo + 1) o0 o1 p0 p1 H' v → Q v H'
theorem Same.kp {l : Addr} {H H1 H2 : Hp} (s : Same H H1) (hl : H l = none) (k : Kp l H1 H2) : Same H H2 := fun b o e => k b o (ne_of_none e hl) (s b o e)
theorem ok_alikeX {f C CB : Addr} {fd : FuncData} (F : Fun K "alike" "alike" s_alike f fd) (KT : KindT K C) (c_ch : CalX P w K mg base 3 "_check_spans" P__check_spans (spCheckX CB))
    (c_nx : Cal P w K mg base 1 "_next_like" P__next_like (spNext C)) (c_le : Cal P w K mg base 1 "_least" P__least spLeast) : FnOk P w K mg base (L2.CX P w) 4 f fd P_alike (spWinX C CB) := by
  obtain ⟨f_ch, fd_ch, G__check_spans, b__check_spans, g__check_spans, k__check_spans⟩ := c_ch
  obtain ⟨f_nx, fd_nx, G__next_like, b__next_like, g__next_like, k__next_like⟩ := c_nx
  obtain ⟨f_le, fd_le, G__least, b__least, g__least, k__least⟩ := c_le
  refine F.okX sc_alike (fun vs H Q E h => ?_) (fun cdv A outer s H vs Q E hr h => ?_)
  · obtain ⟨kd, u, u2, lo, hi, b1, b2, rfl, _⟩ := h
    rfl
  · obtain ⟨kd, u, u2, lo, hi, b1, b2, rfl, hk, h1, h2, su, su2, k1, k2⟩ := h
    have hm : 0 < hi - lo + 1 := by omega
    refine ⟨_, (pss_cons (ps_expr (pe_call G__check_spans (hr.mono (by decide)) rfl g__check_spans k__check_spans b__check_spans .nil (passes_call (takes_of rfl rfl rfl rfl) (fun _ _ _ _ h => h)) (pa_cons (pv 1) (pa_cons (pv 2) pa_nil))))
      (pss_cons (ps_set (i := 3) sc_alike.nd rfl (Or.inl rfl) (pe_call G__next_like (hr.mono (by decide)) rfl g__next_like k__next_like b__next_like .nil pass0 (pa_cons (pv 0) (pa_cons (pe_ix ix_tup (pv 1) pe_int (fun _ _ => rfl)) (pa_cons (pe_ix ix_tup (pv 2) pe_int (fun _ _ => rfl)) pa_nil)))))
      (pss_cons (ps_set (i := 4) sc_alike.nd rfl (Or.inl rfl) (pe_lst pa_nil))
      (pss_cons (ps_for (passes_of rfl) rfl (pi_tup (pe_tup (pa_cons (pe_ix ix_tup (pv 1) pe_int (fun _ _ => rfl)) (pa_cons (pv 3) (pa_cons (pe_op op_add (pv 3) (pe_fld (pv 0) rfl)) pa_nil))))) (pg_name (i := 5) sc_alike.nd rfl (Or.inl rfl)) (pss_cons (ps_set (i := 6) sc_alike.nd rfl (Or.inl rfl) (pe_call G__next_like (hr.mono (by decide)) rfl g__next_like k__next_like b__next_like .nil pass0 (pa_cons (pv 0) (pa_cons (pe_ix ix_tup (pv 2) pe_int (fun _ _ => rfl)) (pa_cons (pv 5) pa_nil)))))
      (pss_one (ps_for (passes_of rfl) rfl (pi_tup (pe_tup (pa_cons (pv 6) (pa_cons (pe_op op_add (pv 6) (pe_fld (pv 0) rfl)) pa_nil)))) (pg_name (i := 7) sc_alike.nd rfl (Or.inl rfl)) (pss_one (ps_if (pt_cmpR op_ne (pv 5) (pv 7) (nomark _)) (pss_one (ps_expr (pe_bm PySem.F.plainAttrs_list PySem.F.slot_list_append PySem.F.type_list_append mt_append (pv 4) (pa_cons (pe_tup (pa_cons (pv 5) (pa_cons (pv 7) pa_nil))) pa_nil)))) pss_nil))))))
      (pss_one (ps_ret (pe_call G__least (hr.mono (by decide)) rfl g__least k__least b__least .nil pass0 (pa_cons (pv 4) (pa_cons (pv 1) (pa_cons (pv 2) pa_nil)))))))))), ?_⟩
    fail "z run"
    refine ⟨u, u2, b1, b2, rfl, su, su2, fun hb H1 S1 => ?_, fun hb d H1 S ed => k2 hb d H1 S ed⟩
    obtain ⟨p, q, o0, o1, p0, p1, rfl, rfl, hp, hq⟩ := spans_of su su2 hb
    have k : ∀ v H2, Same H H2 → Rs (hi - lo + 1) o0 o1 p0 p1 H2 v → Q v H2 := fun v H2 S _ => k1 hb v H2 S
    have ip := S1 _ _ hp.1
    have iq := S1 _ _ hq.1
    fail "z run"
    refine ⟨kd, lo, hi, o0, p0, rfl, hk.same S1, h1, h2, ?_⟩
    fail "z run"
    intro l hl
    have k2 := (hk.same S1).same (same_new (o := .lst []) hl)
    obtain ⟨dx, ek⟩ := id k2
    have ip2 := (same_new (o := .lst []) hl) _ _ ip
    have iq2 := (same_new (o := .lst []) hl) _ _ iq
    fail "z run"
    refine rd_for (rd_iT ?_)
    fail "z run"
    refine ⟨_, _, _, _, _, rfl, ek, KT.cl, KT.n_size, kf_size _ _, ?_⟩
    fail "z run"
    intro t ht
    have S2 : Same H (upd (upd H1 l (.lst [])) t (.tup ((As (hi - lo + 1) o0 p0).map V.int))) := (S1.trans (same_new hl)).trans (same_new ht)
    refine rd_iTa upd_same (for_tup (K := K) (a := t) (xs := (As (hi - lo + 1) o0 p0).map V.int) (fun i σ H' => ∃ va vt vb zs, σ = [some (.ref kd), some (.ref p), some (.ref q), some (.int (nxt (hi - lo + 1) o0 p0)), some (.ref l), va, vt, vb] ∧
        Kp l (upd (upd H1 l (.lst [])) t (.tup ((As (hi - lo + 1) o0 p0).map V.int))) H' ∧ H' l = some (.lst (List.map (fun z : Addr × Int × Int => V.ref z.1) zs)) ∧ Prs H' zs ∧ zs.length ≤ 2 * i ∧
        (∀ z ∈ zs, z.2.1 ≠ z.2.2 ∧ (hi - lo + 1) ∣ z.2.1 - z.2.2) ∧ (∀ a ∈ (As (hi - lo + 1) o0 p0).take i, ∀ b ∈ Bs (hi - lo + 1) p0 a, a ≠ b → ∃ z ∈ zs, z.2 = (a, b)))
      ⟨none, none, none, [], rfl, Kp.refl, (upd_ne (ne_of_none upd_same ht)).trans upd_same, fun z hz => (List.not_mem_nil hz).elim, Nat.zero_le _, fun z hz => (List.not_mem_nil hz).elim, fun a ha => (List.not_mem_nil ha).elim⟩ (fun i σ H' _ ⟨_, _, _, _, _, kp, _⟩ => SqT.of (kp _ _ (fun e => by rw [e, upd_same] at ht; cases ht) upd_same)) ?_ ?_)
    · rintro i x σ H' hx ⟨va, vt, vb, zs, rfl, kp, hl', prs, len, sound, full⟩
      rw [List.getElem?_map] at hx
      obtain ⟨a, ha, rfl⟩ := Option.map_eq_some_iff.mp hx
      have i3 : i < 3 := (List.getElem?_eq_some_iff.mp ha).1
      have S3 : Same H H' := fun b o e => kp b o (ne_of_none (S1 b o e) hl) (S2 b o e)
      have k3 := hk.same S3
      obtain ⟨dx3, ek3⟩ := id k3
      have iq3 := S3 _ _ hq.1
      fail "z run"
      refine ⟨kd, lo, hi, p0, a, rfl, k3, h1, h2, ?_⟩
      fail "z run"
      with_reducible refine rd_for ?_
      with_reducible refine rd_iT ?_
      fail "z run"
      refine ⟨_, _, _, _, _, rfl, ek3, KT.cl, KT.n_size, kf_size _ _, ?_⟩
      fail "z run"
      intro t2 ht2
      have nl2 : l ≠ t2 := ne_of_none hl' ht2
      refine rd_iTa upd_same (for_tup (K := K) (a := t2) (xs := (Bs (hi - lo + 1) p0 a).map V.int) (fun j σ H'' => ∃ vb zs', σ = [some (.ref kd), some (.ref p), some (.ref q), some (.int (nxt (hi - lo + 1) o0 p0)), some (.ref l), some (.int a), some (.int (nxt (hi - lo + 1) p0 a)), vb] ∧
          Kp l (upd H' t2 (.tup ((Bs (hi - lo + 1) p0 a).map V.int))) H'' ∧ H'' l = some (.lst (List.map (fun z : Addr × Int × Int => V.ref z.1) zs')) ∧ Prs H'' zs' ∧ zs'.length ≤ 2 * i + j ∧
          (∀ z ∈ zs', z.2.1 ≠ z.2.2 ∧ (hi - lo + 1) ∣ z.2.1 - z.2.2) ∧ (∀ z ∈ zs, z ∈ zs') ∧ (∀ b ∈ (Bs (hi - lo + 1) p0 a).take j, a ≠ b → ∃ z ∈ zs', z.2 = (a, b)))
        ⟨_, zs, rfl, Kp.refl, (upd_ne nl2).trans hl', prs.same (same_new ht2), by omega, sound, fun z hz => hz, fun b hb => (List.not_mem_nil hb).elim⟩ (fun i σ H' _ ⟨_, _, _, kp, _⟩ => SqT.of (kp _ _ nl2.symm upd_same)) ?_ ?_)
      · rintro j x σ H2 hx ⟨vb2, zs2, rfl, kp2, hl2, prs2, len2, sound2, sub2, full2⟩
        rw [List.getElem?_map] at hx
        obtain ⟨b, hb, rfl⟩ := Option.map_eq_some_iff.mp hx
        have j2 : j < 2 := (List.getElem?_eq_some_iff.mp hb).1
        fail "z run"
        refine rd_iteN (fun ne => ?_) (fun eq => ?_)
        · fail "z run"
          refine ⟨.inl ⟨rfl, _, SqL.of hl2⟩, ?_⟩
          fail "z run"
          intro r hr'
          have nr : l ≠ r := ne_of_none hl2 hr'
          refine ⟨l, _, _, rfl, rfl, (upd_ne nr).trans hl2, Nat.lt_of_le_of_lt (by rw [List.length_map]; exact len2) (small1000 (by omega)), ?_⟩
          refine ⟨_, zs2 ++ [(r, a, b)], rfl, ?_, ?_, ?_, ?_, ?_, ?_, ?_⟩
          · exact (kp2.new hr').put
          · rw [List.map_append]
            exact upd_same
          · intro z hz
            rcases List.mem_append.mp hz with q | q
            · have e := prs2 z q
              rw [upd_ne (fun e2 => by rw [e2, hl2] at e; cases e), upd_ne (ne_of_none e hr')]
              exact e
            · simp only [List.mem_singleton] at q
              subst q
              rw [upd_ne nr.symm]
              exact upd_same
          · simp only [List.length_append, List.length_singleton]
            omega
          · intro z hz
            rcases List.mem_append.mp hz with q | q
            · exact sound2 z q
            · simp only [List.mem_singleton] at q
              subst q
              exact ⟨fun e => ne (congrArg V.int e), Bs_dvd (List.mem_of_getElem? hb)⟩
          · exact fun z hz => List.mem_append_left _ (sub2 z hz)
          · intro c hc nc
            rcases take_mem hb hc with q | rfl
            · obtain ⟨z, hz, ez⟩ := full2 c q nc
              exact ⟨z, List.mem_append_left _ hz, ez⟩
            · exact ⟨(r, a, c), by simp, rfl⟩
        · fail "z run"
          refine ⟨_, zs2, rfl, kp2, hl2, prs2, by omega, sound2, sub2, fun c hc nc => ?_⟩
          rcases take_mem hb hc with q | rfl
          · exact full2 c q nc
          · exact absurd (V.int.inj eq) nc
      · rintro σ H2 ⟨vb2, zs2, rfl, kp2, hl2, prs2, len2, sound2, sub2, full2⟩
        rw [List.length_map, List.take_length] at full2
        refine ⟨_, _, _, zs2, rfl, fun b o nb e => kp2 b o nb ((same_new ht2) b o (kp b o nb e)), hl2, prs2, ?_, sound2, fun c hc b hb nb => ?_⟩
        · have : ((Bs (hi - lo + 1) p0 a).map V.int).length = 2 := rfl
          omega
        · rcases take_mem ha hc with q | rfl
          · obtain ⟨z, hz, ez⟩ := full c q b hb nb
            exact ⟨z, sub2 z hz, ez⟩
          · exact full2 b hb nb
    · rintro σ H' ⟨va, vt, vb, zs, rfl, kp, hl', prs, len, sound, full⟩
      have S3 : Same H H' := fun b o e => kp b o (ne_of_none (S1 b o e) hl) (S2 b o e)
      fail "z run"
      refine ⟨l, p, q, zs, o0, o1, p0, p1, rfl, hl', prs, hp.same S3, hq.same S3, fun H4 S4 no => ?_, fun t x y H4 S4 ht4 ⟨z, hz, ez⟩ inr least => ?_⟩
      · refine k _ H4 (S3.trans S4) (.inl ⟨rfl, fun a b va => ?_⟩)
        obtain ⟨a', ha', b', hb', ne, inr, _⟩ := cands hm va
        obtain ⟨z, hz, ez⟩ := full a' (by rw [List.length_map, List.take_length]; exact ha') b' hb' ne
        refine no z hz ?_
        rw [ez]
        exact inr
      · have so := sound z hz
        rw [ez] at so
        refine k _ H4 (S3.trans S4) (.inr ⟨t, x, y, rfl, ht4, ⟨inr, so⟩, fun a b va => ?_⟩)
        obtain ⟨a', ha', b', hb', ne, inr', le⟩ := cands hm va
        obtain ⟨u, hu, eu⟩ := full a' (by rw [List.length_map, List.take_length]; exact ha') b' hb' ne
        have := least u hu (by rw [eu]; exact inr')
        rw [eu] at this
        exact this.trans le
abbrev s_Kind_cut : Stmt := (inClass (top 26) 5)
abbrev N_Kind_cut : List Str := ["self", "number"]
abbrev P_Kind_cut : List Str := ["self", "number"]
theorem sc_Kind_cut : FnScope N_Kind_cut P_Kind_cut (defScope s_Kind_cut) := ⟨rfl, rfl, rfl, by decide +kernel, rfl, by decide +kernel, by decide +kernel⟩
abbrev s_greater : Stmt := (top 12)
abbrev N_greater : List Str := ["one", "other"]
abbrev P_greater : List Str := ["one", "other"]
theorem sc_greater : FnScope N_greater P_greater (defScope s_greater) := ⟨rfl, rfl, rfl, by decide +kernel, rfl, by decide +kernel, by decide +kernel⟩
abbrev s__least_turned : Stmt := (top 18)
abbrev N__least_turned : List Str := ["kind", "one", "other"]
abbrev P__least_turned : List Str := ["kind", "one", "other"]
theorem sc__least_turned : FnScope N__least_turned P__least_turned (defScope s__least_turned) := ⟨rfl, rfl, rfl, by decide +kernel, rfl, by decide +kernel, by decide +kernel⟩
abbrev s__least_against : Stmt := (top 19)
abbrev N__least_against : List Str := ["kind", "a", "other"]
abbrev P__least_against : List Str := ["kind", "a", "other"]
theorem sc__least_against : FnScope N__least_against P__least_against (defScope s__least_against) := ⟨rfl, rfl, rfl, by decide +kernel, rfl, by decide +kernel, by decide +kernel⟩
abbrev s_ordered : Stmt := (top 17)
abbrev N_ordered : List Str := ["kind", "one", "other", "pairs", "a", "b"]
abbrev P_ordered : List Str := ["kind", "one", "other"]
theorem sc_ordered : FnScope N_ordered P_ordered (defScope s_ordered) := ⟨rfl, rfl, rfl, by decide +kernel, rfl, by decide +kernel, by decide +kernel⟩

theorem kf_no (lo hi : Int) {m : Str} (h1 : ¬ m = "size") (h2 : ¬ m = "high") (h3 : ¬ m = "low") : (kf lo hi).lookup m = none := by
  unfold kf
  rw [lookup_putF, if_neg h1, lookup_putF, if_neg h2, lookup_putF, if_neg h3]
  rfl
theorem rd_meth {C : Addr} {m : Str} {sp : Sp} {E : XK} {ta : TE} {tA : TA} {σ : L2.St} {H : Hp} {Q : VK} (k : ta σ H fun x H1 => ∃ a dx fs, x = .ref a ∧ H1 a = some (.ins C dx fs) ∧ fs.lookup m = none ∧ tA σ H1 fun vs H2 => sp (x :: (vs ++ [])) H2 Q E) : tMeth C m sp [] E ta tA σ H Q := k
def spCutM (C : Addr) : Sp := fun vs H Q _ => ∃ (kd : Addr) (lo hi n : Int), vs = [.ref kd, .int n] ∧ IsKind C H kd lo hi ∧ lo ≤ 0 ∧ 0 ≤ hi ∧ Q (.int (lo + pl lo (hi - lo + 1) n)) H
def CalM (P : Program) (w : World) (K : PySem.W.Frag) (mg : Str → Option Value) (base : Heap) (C : Addr) (m : Str) (ps : List Str) (sp : Sp) : Prop :=
  ∃ (f : Addr) (fd : FuncData), Meth K C m f ∧ FnOk P w K mg base CX0 2 f fd ps sp ∧ Binds K fd ps []
theorem ok_cutM {f C : Addr} {fd : FuncData} (F : Fun K "cut" "Kind.cut" s_Kind_cut f fd) (KT : KindT K C) (c_is : Cal P w K mg base 1 "is_integer" P_is_integer spIsInt) : FnOk P w K mg base CX0 2 f fd P_Kind_cut (spCutM C) := by
  obtain ⟨f_is, fd_is, G_is_integer, b_is_integer, g_is_integer, k_is_integer⟩ := c_is
  refine F.ok sc_Kind_cut (fun vs H Q E h => ?_) (fun cdv A outer s H vs Q E hr h => ?_)
  · obtain ⟨kd, lo, hi, n, rfl, _⟩ := h
    rfl
  · obtain ⟨kd, lo, hi, n, rfl, ⟨dx, ek⟩, h1, h2, k⟩ := h
    refine ⟨_, (pss_cons (ps_if (pt_not (pt_val (pe_call G_is_integer (hr.mono (by decide)) rfl g_is_integer k_is_integer b_is_integer .nil pass0 (pa_cons (pv 1) pa_nil)))) (pss_one ps_never) pss_nil)
      (pss_one (ps_ret (pe_op op_add (pe_fld (pv 0) rfl) (pe_op op_mod (pe_op op_sub (pv 1) (pe_fld (pv 0) rfl)) (pe_fld (pv 0) rfl)))))), ?_⟩
    fail "z run"
    refine ⟨_, rfl, .int n, ?_⟩
    fail "z run"
    refine iteF ?_
    fail "z run"
    refine ⟨_, _, _, _, _, rfl, ek, KT.cl, KT.n_low, kf_low _ _, ?_⟩
    fail "z run"
    refine ⟨_, _, _, _, _, rfl, ek, KT.cl, KT.n_low, kf_low _ _, ?_⟩
    fail "z run"
    refine ⟨_, _, _, _, _, rfl, ek, KT.cl, KT.n_size, kf_size _ _, ?_⟩
    fail "z run"
    exact k
def spGreater : Sp := fun vs H Q _ => ∃ a b : Int, vs = [.int a, .int b] ∧ Q (.int (if a ≥ b then a else b)) H
theorem ok_greater {f : Addr} {fd : FuncData} (F : Fun K "greater" "greater" s_greater f fd) : FnOk P w K mg base CX0 1 f fd P_greater spGreater := by
  refine F.ok sc_greater (fun vs H Q E h => ?_) (fun cdv A outer s H vs Q E hr h => ?_)
  · obtain ⟨a, b, rfl, _⟩ := h
    rfl
  · obtain ⟨a, b, rfl, k⟩ := h
    refine ⟨_, (pss_one (ps_ret (pe_ifExp (pt_cmpR op_ge (pv 0) (pv 1) (nomark _)) (pv 0) (pv 1)))), ?_⟩
    fail "z run"
    refine rd_ite (fun c => ?_) (fun c => ?_)
    · fail "z run"
      rw [if_pos c] at k
      exact k
    · fail "z run"
      rw [if_neg c] at k
      exact k
def spTurned (C : Addr) : Sp := fun vs H Q _ => ∃ (kd p q : Addr) (lo hi o0 o1 p0 p1 : Int), vs = [.ref kd, .ref p, .ref q] ∧ IsKind C H kd lo hi ∧ lo ≤ 0 ∧ 0 ≤ hi ∧ Span H p o0 o1 ∧ Span H q p0 p1 ∧
  ∀ t H', Same H H' → H' t = some (.tup ((As2 lo (hi - lo + 1) o0 p0).map V.int)) → Q (.ref t) H'
theorem ok_turned {f C : Addr} {fd : FuncData} (F : Fun K "_least_turned" "_least_turned" s__least_turned f fd) (KT : KindT K C) (c_nx : Cal P w K mg base 1 "_next_like" P__next_like (spNext C)) (c_gr : Cal P w K mg base 1 "greater" P_greater spGreater) :
    FnOk P w K mg base CX0 2 f fd P__least_turned (spTurned C) := by
  obtain ⟨f_nx, fd_nx, G__next_like, b__next_like, g__next_like, k__next_like⟩ := c_nx
  obtain ⟨f_gr, fd_gr, G_greater, b_greater, g_greater, k_greater⟩ := c_gr
  refine F.ok sc__least_turned (fun vs H Q E h => ?_) (fun cdv A outer s H vs Q E hr h => ?_)
  · obtain ⟨kd, p, q, lo, hi, o0, o1, p0, p1, rfl, _⟩ := h
    rfl
  · obtain ⟨kd, p, q, lo, hi, o0, o1, p0, p1, rfl, hk, h1, h2, ⟨hp, _⟩, ⟨hq, _⟩, k⟩ := h
    obtain ⟨dx, ek⟩ := id hk
    refine ⟨_, (pss_one (ps_ret (pe_tup (pa_cons (pe_ix ix_tup (pv 1) pe_int (fun _ _ => rfl)) (pa_cons (pe_call G__next_like (hr.mono (by decide)) rfl g__next_like k__next_like b__next_like .nil pass0 (pa_cons (pv 0) (pa_cons (pe_ix ix_tup (pv 1) pe_int (fun _ _ => rfl)) (pa_cons (pe_ix ix_tup (pv 2) pe_int (fun _ _ => rfl)) pa_nil)))) (pa_cons (pe_call G__next_like (hr.mono (by decide)) rfl g__next_like k__next_like b__next_like .nil pass0 (pa_cons (pv 0) (pa_cons (pe_call G_greater (hr.mono (by decide)) rfl g_greater k_greater b_greater .nil pass0 (pa_cons (pe_ix ix_tup (pv 1) pe_int (fun _ _ => rfl)) (pa_cons (pe_op op_add (pe_ix ix_tup (pv 2) pe_int (fun _ _ => rfl)) pe_int) pa_nil))) (pa_cons (pe_fld (pv 0) rfl) pa_nil)))) pa_nil)))))), ?_⟩
    fail "z run"
    refine ⟨kd, lo, hi, o0, p0, rfl, hk, h1, h2, ?_⟩
    fail "z run"
    refine ⟨o0, p0 + 1, rfl, ?_⟩
    fail "z run"
    refine ⟨_, _, _, _, _, rfl, ek, KT.cl, KT.n_low, kf_low _ _, ?_⟩
    fail "z run"
    refine ⟨kd, lo, hi, _, _, rfl, hk, h1, h2, ?_⟩
    fail "z run"
    intro t ht
    exact k t _ (same_new ht) upd_same
def spAgainst (C : Addr) : Sp := fun vs H Q _ => ∃ (kd q : Addr) (lo hi a p0 p1 : Int), vs = [.ref kd, .int a, .ref q] ∧ IsKind C H kd lo hi ∧ lo ≤ 0 ∧ 0 ≤ hi ∧ Span H q p0 p1 ∧
  ∀ t H', Same H H' → H' t = some (.tup ((Bs2 lo (hi - lo + 1) p0 a).map V.int)) → Q (.ref t) H'
theorem ok_against {f C : Addr} {fd : FuncData} (F : Fun K "_least_against" "_least_against" s__least_against f fd) (KT : KindT K C) (c_nx : Cal P w K mg base 1 "_next_like" P__next_like (spNext C)) (c_gr : Cal P w K mg base 1 "greater" P_greater spGreater) :
    FnOk P w K mg base CX0 2 f fd P__least_against (spAgainst C) := by
  obtain ⟨f_nx, fd_nx, G__next_like, b__next_like, g__next_like, k__next_like⟩ := c_nx
  obtain ⟨f_gr, fd_gr, G_greater, b_greater, g_greater, k_greater⟩ := c_gr
  refine F.ok sc__least_against (fun vs H Q E h => ?_) (fun cdv A outer s H vs Q E hr h => ?_)
  · obtain ⟨kd, q, lo, hi, a, p0, p1, rfl, _⟩ := h
    rfl
  · obtain ⟨kd, q, lo, hi, a, p0, p1, rfl, hk, h1, h2, ⟨hq, _⟩, k⟩ := h
    obtain ⟨dx, ek⟩ := id hk
    refine ⟨_, (pss_one (ps_ret (pe_tup (pa_cons (pe_ix ix_tup (pv 2) pe_int (fun _ _ => rfl)) (pa_cons (pe_call G__next_like (hr.mono (by decide)) rfl g__next_like k__next_like b__next_like .nil pass0 (pa_cons (pv 0) (pa_cons (pe_ix ix_tup (pv 2) pe_int (fun _ _ => rfl)) (pa_cons (pe_op op_add (pv 1) pe_int) pa_nil)))) (pa_cons (pe_call G__next_like (hr.mono (by decide)) rfl g__next_like k__next_like b__next_like .nil pass0 (pa_cons (pv 0) (pa_cons (pe_call G_greater (hr.mono (by decide)) rfl g_greater k_greater b_greater .nil pass0 (pa_cons (pe_ix ix_tup (pv 2) pe_int (fun _ _ => rfl)) (pa_cons (pe_op op_add (pv 1) pe_int) pa_nil))) (pa_cons (pe_fld (pv 0) rfl) pa_nil)))) pa_nil)))))), ?_⟩
    fail "z run"
    refine ⟨kd, lo, hi, p0, a + 1, rfl, hk, h1, h2, ?_⟩
    fail "z run"
    refine ⟨p0, a + 1, rfl, ?_⟩
    fail "z run"
    refine ⟨_, _, _, _, _, rfl, ek, KT.cl, KT.n_low, kf_low _ _, ?_⟩
    fail "z run"
    refine ⟨kd, lo, hi, _, _, rfl, hk, h1, h2, ?_⟩
    fail "z run"
    intro t ht
    exact k t _ (same_new ht) upd_same
/-- what ordered and the law's own search tell: none, or the least pair -/
def Turn (lo m o0 o1 p0 p1 a b : Int) : Prop := InR o0 o1 p0 p1 a b ∧ Wr lo m a b
def RsO (lo m o0 o1 p0 p1 : Int) (H : Hp) (v : V) : Prop := (v = .non ∧ ∀ a b, ¬ Turn lo m o0 o1 p0 p1 a b) ∨
  ∃ t x y, v = .ref t ∧ H t = some (.tup [.int x, .int y]) ∧ Turn lo m o0 o1 p0 p1 x y ∧ ∀ a b, Turn lo m o0 o1 p0 p1 a b → LexLe x y a b
def spOrdered (C : Addr) : Sp := fun vs H Q _ => ∃ (kd p q : Addr) (lo hi o0 o1 p0 p1 : Int), vs = [.ref kd, .ref p, .ref q] ∧ IsKind C H kd lo hi ∧ lo ≤ 0 ∧ 0 ≤ hi ∧ Span H p o0 o1 ∧ Span H q p0 p1 ∧
  ∀ v H', Same H H' → RsO lo (hi - lo + 1) o0 o1 p0 p1 H' v → Q v H'
theorem wr_bl {lo m a b : Int} : V.bl (decide (lo + pl lo m a < lo + pl lo m b)) = V.bl (decide (a < b)) ↔ ¬ Wr lo m a b := by
  unfold Wr
  constructor
  · intro h c
    refine c ?_
    have e := V.bl.inj h
    constructor
    · intro q
      rw [decide_eq_true (show lo + pl lo m a < lo + pl lo m b by omega)] at e
      exact of_decide_eq_true e.symm
    · intro q
      rw [decide_eq_true q] at e
      have := of_decide_eq_true e
      omega
  · intro h
    have i := Classical.not_not.mp h
    by_cases q : a < b
    · have := i.mpr q
      rw [decide_eq_true q, decide_eq_true (show lo + pl lo m a < lo + pl lo m b by omega)]
    · have : ¬ pl lo m a < pl lo m b := fun z => q (i.mp z)
      rw [decide_eq_false q, decide_eq_false (show ¬ lo + pl lo m a < lo + pl lo m b by omega)]
theorem ok_orderedX {f C CB : Addr} {fd : FuncData} (F : Fun K "ordered" "ordered" s_ordered f fd) (KT : KindT K C) (c_ch : CalX P w K mg base 3 "_check_spans" P__check_spans (spCheckX CB))
    (c_tu : Cal P w K mg base 2 "_least_turned" P__least_turned (spTurned C)) (c_ag : Cal P w K mg base 2 "_least_against" P__least_against (spAgainst C)) (c_le : Cal P w K mg base 1 "_least" P__least spLeast)
    (c_cut : CalM P w K mg base C "cut" P_Kind_cut (spCutM C)) : FnOk P w K mg base (L2.CX P w) 4 f fd P_ordered (spWinX C CB) := by
  obtain ⟨f_ch, fd_ch, G__check_spans, b__check_spans, g__check_spans, k__check_spans⟩ := c_ch
  obtain ⟨f_tu, fd_tu, G__least_turned, b__least_turned, g__least_turned, k__least_turned⟩ := c_tu
  obtain ⟨f_ag, fd_ag, G__least_against, b__least_against, g__least_against, k__least_against⟩ := c_ag
  obtain ⟨f_le, fd_le, G__least, b__least, g__least, k__least⟩ := c_le
  obtain ⟨f_cut, fd_cut, m_cut, G_Kind_cut, b_Kind_cut⟩ := c_cut
  refine F.okX sc_ordered (fun vs H Q E h => ?_) (fun cdv A outer s H vs Q E hr h => ?_)
  · obtain ⟨kd, u, u2, lo, hi, b1, b2, rfl, _⟩ := h
    rfl
  · obtain ⟨kd, u, u2, lo, hi, b1, b2, rfl, hk, h1, h2, su, su2, k1, k2⟩ := h
    have hm : 0 < hi - lo + 1 := by omega
    have noc : (kf lo hi).lookup ("cut" : Str) = none := kf_no lo hi (by decide +kernel) (by decide +kernel) (by decide +kernel)
    refine ⟨_, (pss_cons (ps_expr (pe_call G__check_spans (hr.mono (by decide)) rfl g__check_spans k__check_spans b__check_spans .nil (passes_call (takes_of rfl rfl rfl rfl) (fun _ _ _ _ h => h)) (pa_cons (pv 1) (pa_cons (pv 2) pa_nil))))
      (pss_cons (ps_set (i := 3) sc_ordered.nd rfl (Or.inl rfl) (pe_lst pa_nil))
      (pss_cons (ps_for (passes_of rfl) rfl (pi_tup (pe_call G__least_turned (hr.mono (by decide)) rfl g__least_turned k__least_turned b__least_turned .nil pass0 (pa_cons (pv 0) (pa_cons (pv 1) (pa_cons (pv 2) pa_nil))))) (pg_name (i := 4) sc_ordered.nd rfl (Or.inl rfl)) (pss_one (ps_for (passes_of rfl) rfl (pi_tup (pe_call G__least_against (hr.mono (by decide)) rfl g__least_against k__least_against b__least_against .nil pass0 (pa_cons (pv 0) (pa_cons (pv 4) (pa_cons (pv 2) pa_nil))))) (pg_name (i := 5) sc_ordered.nd rfl (Or.inl rfl)) (pss_one (ps_if (pt_cmpR op_ne (pe_cmpR op_lt (pe_meth (pv 0) KT.cl m_cut G_Kind_cut (hr.mono (by decide)) b_Kind_cut .nil pass0 (pa_cons (pv 4) pa_nil)) (pe_meth (pv 0) KT.cl m_cut G_Kind_cut (hr.mono (by decide)) b_Kind_cut .nil pass0 (pa_cons (pv 5) pa_nil)) (nomark _)) (pe_cmpR op_lt (pv 4) (pv 5) (nomark _)) (nomark _)) (pss_one (ps_expr (pe_bm PySem.F.plainAttrs_list PySem.F.slot_list_append PySem.F.type_list_append mt_append (pv 3) (pa_cons (pe_tup (pa_cons (pv 4) (pa_cons (pv 5) pa_nil))) pa_nil)))) pss_nil)))))
      (pss_one (ps_ret (pe_call G__least (hr.mono (by decide)) rfl g__least k__least b__least .nil pass0 (pa_cons (pv 3) (pa_cons (pv 1) (pa_cons (pv 2) pa_nil))))))))), ?_⟩
    fail "z run"
    refine ⟨u, u2, b1, b2, rfl, su, su2, fun hb H1 S1 => ?_, fun hb d H1 S ed => k2 hb d H1 S ed⟩
    obtain ⟨p, q, o0, o1, p0, p1, rfl, rfl, hp, hq⟩ := spans_of su su2 hb
    have k : ∀ v H2, Same H H2 → RsO lo (hi - lo + 1) o0 o1 p0 p1 H2 v → Q v H2 := fun v H2 S _ => k1 hb v H2 S
    fail "z run"
    intro l hl
    have Sl : Same H (upd H1 l (.lst [])) := S1.trans (same_new hl)
    fail "z run"
    with_reducible refine rd_for ?_
    with_reducible refine rd_iT ?_
    fail "z run"
    refine ⟨kd, p, q, lo, hi, o0, o1, p0, p1, rfl, hk.same Sl, h1, h2, hp.same Sl, hq.same Sl, fun t Ht St ht => ?_⟩
    have S2 : Same H Ht := Sl.trans St
    have hlt : Ht l = some (.lst []) := St _ _ upd_same
    refine rd_iTa ht (for_tup (K := K) (a := t) (xs := (As2 lo (hi - lo + 1) o0 p0).map V.int) (fun i σ H' => ∃ va vb zs, σ = [some (.ref kd), some (.ref p), some (.ref q), some (.ref l), va, vb] ∧
        Kp l Ht H' ∧ H' l = some (.lst (List.map (fun z : Addr × Int × Int => V.ref z.1) zs)) ∧ Prs H' zs ∧ zs.length ≤ 3 * i ∧
        (∀ z ∈ zs, Wr lo (hi - lo + 1) z.2.1 z.2.2) ∧ (∀ a ∈ (As2 lo (hi - lo + 1) o0 p0).take i, ∀ b ∈ Bs2 lo (hi - lo + 1) p0 a, Wr lo (hi - lo + 1) a b → ∃ z ∈ zs, z.2 = (a, b)))
      ⟨none, none, [], rfl, Kp.refl, hlt, fun z hz => (List.not_mem_nil hz).elim, Nat.zero_le _, fun z hz => (List.not_mem_nil hz).elim, fun a ha => (List.not_mem_nil ha).elim⟩ (fun i σ H' _ ⟨_, _, _, _, kp, _⟩ => SqT.of (kp _ _ (fun e => by rw [e, hlt] at ht; cases ht) ht)) ?_ ?_)
    · rintro i x σ H' hx ⟨va, vb, zs, rfl, kp, hl', prs, len, sound, full⟩
      rw [List.getElem?_map] at hx
      obtain ⟨a, ha, rfl⟩ := Option.map_eq_some_iff.mp hx
      have i3 : i < 3 := (List.getElem?_eq_some_iff.mp ha).1
      have S3 : Same H H' := fun b o e => kp b o (ne_of_none (S1 b o e) hl) (S2 b o e)
      fail "z run"
      with_reducible refine rd_for ?_
      with_reducible refine rd_iT ?_
      fail "z run"
      refine ⟨kd, q, lo, hi, a, p0, p1, rfl, hk.same S3, h1, h2, hq.same S3, fun t2 H2t S2t ht2 => ?_⟩
      have hl2t := S2t _ _ hl'
      have nl2 : l ≠ t2 := fun e => by rw [e, ht2] at hl2t; cases hl2t
      refine rd_iTa ht2 (for_tup (K := K) (a := t2) (xs := (Bs2 lo (hi - lo + 1) p0 a).map V.int) (fun j σ H'' => ∃ vb zs', σ = [some (.ref kd), some (.ref p), some (.ref q), some (.ref l), some (.int a), vb] ∧
          Kp l H2t H'' ∧ H'' l = some (.lst (List.map (fun z : Addr × Int × Int => V.ref z.1) zs')) ∧ Prs H'' zs' ∧ zs'.length ≤ 3 * i + j ∧
          (∀ z ∈ zs', Wr lo (hi - lo + 1) z.2.1 z.2.2) ∧ (∀ z ∈ zs, z ∈ zs') ∧ (∀ b ∈ (Bs2 lo (hi - lo + 1) p0 a).take j, Wr lo (hi - lo + 1) a b → ∃ z ∈ zs', z.2 = (a, b)))
        ⟨_, zs, rfl, Kp.refl, hl2t, prs.same S2t, by omega, sound, fun z hz => hz, fun b hb => (List.not_mem_nil hb).elim⟩ (fun i σ H' _ ⟨_, _, _, kp, _⟩ => SqT.of (kp _ _ nl2.symm ht2)) ?_ ?_)
      · rintro j x σ H2 hx ⟨vb2, zs2, rfl, kp2, hl2, prs2, len2, sound2, sub2, full2⟩
        rw [List.getElem?_map] at hx
        obtain ⟨b, hb, rfl⟩ := Option.map_eq_some_iff.mp hx
        have j2 : j < 3 := (List.getElem?_eq_some_iff.mp hb).1
        have k2 : IsKind C H2 kd lo hi := by
          obtain ⟨dx, e⟩ := hk.same (S3.trans S2t)
          exact ⟨dx, kp2 _ _ (fun z => by rw [z, hl2t] at e; cases e) e⟩
        obtain ⟨dx, ek⟩ := id k2
        fail "z run"
        with_reducible refine rd_meth ?_
        fail "z run"
        refine ⟨kd, dx, _, rfl, ek, noc, ?_⟩
        fail "z run"
        refine ⟨kd, lo, hi, a, rfl, k2, h1, h2, ?_⟩
        with_reducible refine rd_meth ?_
        fail "z run"
        refine ⟨kd, dx, _, rfl, ek, noc, ?_⟩
        fail "z run"
        refine ⟨kd, lo, hi, b, rfl, k2, h1, h2, ?_⟩
        fail "z run"
        refine rd_iteN (fun ne => ?_) (fun eq => ?_)
        · have wr : Wr lo (hi - lo + 1) a b := Classical.byContradiction fun z => ne (wr_bl.mpr z)
          fail "z run"
          refine ⟨.inl ⟨rfl, _, SqL.of hl2⟩, ?_⟩
          fail "z run"
          intro r hr'
          have nr : l ≠ r := ne_of_none hl2 hr'
          refine ⟨l, _, _, rfl, rfl, (upd_ne nr).trans hl2, Nat.lt_of_le_of_lt (by rw [List.length_map]; exact len2) (small1000 (by omega)), ?_⟩
          refine ⟨_, zs2 ++ [(r, a, b)], rfl, ?_, ?_, ?_, ?_, ?_, ?_, ?_⟩
          · exact (kp2.new hr').put
          · rw [List.map_append]
            exact upd_same
          · intro z hz
            rcases List.mem_append.mp hz with q | q
            · have e := prs2 z q
              rw [upd_ne (fun e2 => by rw [e2, hl2] at e; cases e), upd_ne (ne_of_none e hr')]
              exact e
            · simp only [List.mem_singleton] at q
              subst q
              rw [upd_ne nr.symm]
              exact upd_same
          · simp only [List.length_append, List.length_singleton]
            omega
          · intro z hz
            rcases List.mem_append.mp hz with q | q
            · exact sound2 z q
            · simp only [List.mem_singleton] at q
              subst q
              exact wr
          · exact fun z hz => List.mem_append_left _ (sub2 z hz)
          · intro c hc nc
            rcases take_mem hb hc with q | rfl
            · obtain ⟨z, hz, ez⟩ := full2 c q nc
              exact ⟨z, List.mem_append_left _ hz, ez⟩
            · exact ⟨(r, a, c), by simp, rfl⟩
        · fail "z run"
          refine ⟨_, zs2, rfl, kp2, hl2, prs2, by omega, sound2, sub2, fun c hc nc => ?_⟩
          rcases take_mem hb hc with q | rfl
          · exact full2 c q nc
          · exact absurd nc (wr_bl.mp eq)
      · rintro σ H2 ⟨vb2, zs2, rfl, kp2, hl2, prs2, len2, sound2, sub2, full2⟩
        rw [List.length_map, List.take_length] at full2
        refine ⟨_, _, zs2, rfl, fun b o nb e => kp2 b o nb (S2t b o (kp b o nb e)), hl2, prs2, ?_, sound2, fun c hc b hb nb => ?_⟩
        · have : ((Bs2 lo (hi - lo + 1) p0 a).map V.int).length = 3 := rfl
          omega
        · rcases take_mem ha hc with q | rfl
          · obtain ⟨z, hz, ez⟩ := full c q b hb nb
            exact ⟨z, sub2 z hz, ez⟩
          · exact full2 b hb nb
    · rintro σ H' ⟨va, vb, zs, rfl, kp, hl', prs, len, sound, full⟩
      have S3 : Same H H' := fun b o e => kp b o (ne_of_none (S1 b o e) hl) (S2 b o e)
      fail "z run"
      refine ⟨l, p, q, zs, o0, o1, p0, p1, rfl, hl', prs, hp.same S3, hq.same S3, fun H4 S4 no => ?_, fun t x y H4 S4 ht4 ⟨z, hz, ez⟩ inr least => ?_⟩
      · refine k _ H4 (S3.trans S4) (.inl ⟨rfl, fun a b va => ?_⟩)
        obtain ⟨a', ha', b', hb', ne, inr, _⟩ := cands2 hm va.1 va.2
        obtain ⟨z, hz, ez⟩ := full a' (by rw [List.length_map, List.take_length]; exact ha') b' hb' ne
        refine no z hz ?_
        rw [ez]
        exact inr
      · have so := sound z hz
        rw [ez] at so
        refine k _ H4 (S3.trans S4) (.inr ⟨t, x, y, rfl, ht4, ⟨inr, so⟩, fun a b va => ?_⟩)
        obtain ⟨a', ha', b', hb', ne, inr', le⟩ := cands2 hm va.1 va.2
        obtain ⟨u, hu, eu⟩ := full a' (by rw [List.length_map, List.take_length]; exact ha') b' hb' ne
        have := least u hu (by rw [eu]; exact inr')
        rw [eu] at this
        exact this.trans le
/-! ### k08: values that are spans or not -/
abbrev s__law_value : Stmt := (top 32)
abbrev N__law_value : List Str := ["_law_pot", "_law_first", "_law_last", "_law_some"]
abbrev P__law_value : List Str := ["_law_pot"]
theorem sc__law_value : FnScope N__law_value P__law_value (defScope s__law_value) := ⟨rfl, rfl, rfl, by decide +kernel, rfl, by decide +kernel, by decide +kernel⟩

theorem del_sub {H : Hp} {p : Addr} : Same (L2.del H p) H := fun b o e => by
  by_cases h : b = p
  · subst h
    rw [del_same] at e
    cases e
  · rw [del_ne h] at e
    exact e
theorem del_kp {H H' : Hp} {p : Addr} (k : Kp p H H') : Same (L2.del H p) (L2.del H' p) := fun b o e => by
  by_cases h : b = p
  · subst h
    rw [del_same] at e
    cases e
  · rw [del_ne h] at e ⊢
    exact k b o h e
theorem del_mono {H H' : Hp} {p : Addr} (s : Same H H') : Same (L2.del H p) (L2.del H' p) := del_kp fun b o _ e => s b o e
theorem del_at {H : Hp} {p b : Addr} {o : HO} (e : H b = some o) (h : b ≠ p) : L2.del H p b = some o := (del_ne h).trans e
theorem sz_text {i : Int} {k : Nat} (h1 : -(2 ^ 200) < i) (h2 : i < 2 ^ 200) : Sz k 250 (.str (Str.ofString (toString i))) := by
  have l := log_of h1 h2
  have t := int_text_length_le (k := 200) (by decide) l
  refine ⟨by simp [PyData.showable], ?_, ?_, by simp [PyData.depth]⟩
  · simp only [PyData.leavesShort]
    rw [Str.ofString_eq_toList]
    simp only [List.toList_toArray, List.all_map, List.all_eq_true, Function.comp_apply, decide_eq_true_eq]
    intro c _
    exact Nat.lt_of_lt_of_le c.val.toNat_lt (by decide)
  · simp only [PyData.weight]
    show (Str.ofString (toString i)).length ≤ 250
    rw [PySem.ofString_length]
    omega
theorem sm_str {k : Nat} {x : Str} (h : PyData.showable (.str x) = true) (c : PyData.canLay0 (.str x) = true) (l : PyData.leavesShort 250 (.str x) = true) (w : PyData.weight (.str x) ≤ 300) : Sm k 300 (.str x) := ⟨h, by simp [PyData.hasDict], c, l, w, by simp [PyData.depth]⟩
theorem Pot.ne' {H : Hp} {p q : Addr} {n : Nat} (h : Pot H p n) (hq : H q = none) : q ≠ p := (h.ne hq).symm
/-- a value of the law, whether it is a span, its data; all away from the pot at p -/
def Vv (p : Addr) (H : Hp) (v : V) (b : Bool) : Prop := SV (L2.del H p) v b ∧ ∃ d, Dz (L2.del H p) v d ∧ Sz 3 2000 d
theorem Vv.kp {p : Addr} {H H' : Hp} {v : V} {b : Bool} (h : Vv p H v b) (k : Kp p H H') : Vv p H' v b := ⟨h.1.same (del_kp k), let ⟨d, x, y⟩ := h.2; ⟨d, x.same (del_kp k), y⟩⟩
theorem Vv.same {p : Addr} {H H' : Hp} {v : V} {b : Bool} (h : Vv p H v b) (s : Same H H') : Vv p H' v b := h.kp fun b o _ e => s b o e
def spVal : Sp := fun vs H Q _ => ∃ (p : Addr) (n : Nat), vs = [.ref p] ∧ Pot H p (n + 4) ∧ ∀ (t : Addr) (v : V) (b : Bool) (H' : Hp), H' t = some (.tup [v, .bl b]) → Vv p H' v b → Kp p H H' → Pot H' p n → Q (.ref t) H'
theorem ok_value {f : Addr} {fd : FuncData} (F : Fun K "_law_value" "_law_value" s__law_value f fd) (T : Txt mg) (n_str : mg "str" = none) (c_take : Cal P w K mg base 1 "_law_take" P__law_take spTake) (c_of : Cal P w K mg base 2 "_law_of" P__law_of spOf) :
    FnOk P w K mg base CX0 3 f fd P__law_value spVal := by
  obtain ⟨f_take, fd_take, G__law_take, b__law_take, g__law_take, k__law_take⟩ := c_take
  obtain ⟨f_of, fd_of, G__law_of, b__law_of, g__law_of, k__law_of⟩ := c_of
  refine F.ok sc__law_value (fun vs H Q E h => ?_) (fun cdv A outer s H vs Q E hr h => ?_)
  · obtain ⟨p, n, rfl, _⟩ := h
    rfl
  · obtain ⟨p, n, rfl, hp, k⟩ := h
    refine ⟨_, (pss_cons (ps_set (i := 1) sc__law_value.nd rfl (Or.inl rfl) (pe_op op_sub (pe_call G__law_take (hr.mono (by decide)) rfl g__law_take k__law_take b__law_take .nil pass0 (pa_cons (pv 0) (pa_cons pe_int pa_nil))) pe_int))
      (pss_cons (ps_set (i := 2) sc__law_value.nd rfl (Or.inl rfl) (pe_op op_add (pv 1) (pe_call G__law_take (hr.mono (by decide)) rfl g__law_take k__law_take b__law_take .nil pass0 (pa_cons (pv 0) (pa_cons pe_int pa_nil)))))
      (pss_cons (ps_set (i := 3) sc__law_value.nd rfl (Or.inl rfl) (pe_lst (pa_cons pe_non (pa_cons pe_bl (pa_cons pe_int (pa_cons pe_str (pa_cons (pe_tup pa_nil) (pa_cons (pe_lstN (pa_cons (pv 1) (pa_cons (pv 2) pa_nil))) (pa_cons (pe_tup (pa_cons (pv 1) pa_nil)) (pa_cons (pe_tup (pa_cons (pv 1) (pa_cons (pv 2) (pa_cons (pv 2) pa_nil)))) (pa_cons (pe_tup (pa_cons (pv 1) (pa_cons pe_non pa_nil))) (pa_cons (pe_tup (pa_cons pe_non (pa_cons (pv 2) pa_nil))) pa_nil))))))))))))
      (pss_cons (ps_set (i := 3) sc__law_value.nd rfl (Or.inl rfl) (pe_op op_cat (pv 3) (pe_lst (pa_cons (pe_tup (pa_cons pe_bl (pa_cons pe_int pa_nil))) (pa_cons (pe_tup (pa_cons pe_int (pa_cons pe_bl pa_nil))) (pa_cons (pe_tup (pa_cons (pe_callTy call_str_int (by rfl) n_str (by decide +kernel) (pa_cons (pv 1) pa_nil)) (pa_cons (pv 2) pa_nil))) (pa_cons (pe_tup (pa_cons (pe_op op_add (pv 2) pe_int) (pa_cons (pv 1) pa_nil))) (pa_cons (pe_disp (pps_cons (pv 1) (pv 2) pps_nil) rfl rfl (by simp) (by decide)) (pa_cons (pe_tup (pa_cons (pe_tup (pa_cons (pv 1) (pa_cons (pv 2) pa_nil))) pa_nil)) pa_nil)))))))))
      (pss_cons (ps_if (pt_cmpR op_eq (pe_call G__law_take (hr.mono (by decide)) rfl g__law_take k__law_take b__law_take .nil pass0 (pa_cons (pv 0) (pa_cons pe_int pa_nil))) pe_int (nomark _)) (pss_one (ps_ret (pe_tup (pa_cons (pe_tup (pa_cons (pv 1) (pa_cons (pv 2) pa_nil))) (pa_cons pe_bl pa_nil))))) pss_nil)
      (pss_one (ps_ret (pe_tup (pa_cons (pe_call G__law_of (hr.mono (by decide)) rfl g__law_of k__law_of b__law_of .nil pass0 (pa_cons (pv 0) (pa_cons (pv 3) pa_nil))) (pa_cons pe_bl pa_nil)))))))))), ?_⟩
    unfold tLstN tDisp
    fail "z run"
    refine ⟨p, n + 3, 600, rfl, hp, by decide, by decide, fun r1 H1 r10 r11 K1 P1 => ?_⟩
    fail "z run"
    obtain ⟨x, ex⟩ : ∃ x, x = r1 - 300 := ⟨_, rfl⟩
    rw [← ex]
    refine ⟨p, n + 2, 300, rfl, P1, by decide, by decide, fun r2 H2 r20 r21 K2 P2 => ?_⟩
    fail "z run"
    obtain ⟨y, ey⟩ : ∃ y, y = x + r2 := ⟨_, rfl⟩
    rw [← ey]
    have SS : Same H2 H2 := Same.refl _
    intro w1 hw1
    have nw1 := (P2.same SS).ne' hw1
    have S := same_new (o := .tup []) hw1
    have bw1 : upd H2 w1 (.tup []) w1 = some (.tup []) := upd_same
    replace SS := SS.trans S
    clear S
    generalize upd H2 w1 (.tup []) = G1 at *
    fail "z run"
    refine ⟨few (Nat.le_of_ble_eq_true rfl), fun w2 zw2 hw2 => ?_⟩
    have nw2 := (P2.same SS).ne' hw2
    have S := same_new (o := .lst [.int x, .int y]) hw2
    have bw2 : upd G1 w2 (.lst [.int x, .int y]) w2 = some (.lst [.int x, .int y]) := upd_same
    replace bw1 := S _ _ bw1
    replace SS := SS.trans S
    clear S
    generalize upd G1 w2 (.lst [.int x, .int y]) = G2 at *
    fail "z run"
    intro w3 hw3
    have nw3 := (P2.same SS).ne' hw3
    have S := same_new (o := .tup [.int x]) hw3
    have bw3 : upd G2 w3 (.tup [.int x]) w3 = some (.tup [.int x]) := upd_same
    replace bw1 := S _ _ bw1
    replace bw2 := S _ _ bw2
    replace SS := SS.trans S
    clear S
    generalize upd G2 w3 (.tup [.int x]) = G3 at *
    fail "z run"
    intro w4 hw4
    have nw4 := (P2.same SS).ne' hw4
    have S := same_new (o := .tup [.int x, .int y, .int y]) hw4
    have bw4 : upd G3 w4 (.tup [.int x, .int y, .int y]) w4 = some (.tup [.int x, .int y, .int y]) := upd_same
    replace bw1 := S _ _ bw1
    replace bw2 := S _ _ bw2
    replace bw3 := S _ _ bw3
    replace SS := SS.trans S
    clear S
    generalize upd G3 w4 (.tup [.int x, .int y, .int y]) = G4 at *
    fail "z run"
    intro w5 hw5
    have nw5 := (P2.same SS).ne' hw5
    have S := same_new (o := .tup [.int x, .non]) hw5
    have bw5 : upd G4 w5 (.tup [.int x, .non]) w5 = some (.tup [.int x, .non]) := upd_same
    replace bw1 := S _ _ bw1
    replace bw2 := S _ _ bw2
    replace bw3 := S _ _ bw3
    replace bw4 := S _ _ bw4
    replace SS := SS.trans S
    clear S
    generalize upd G4 w5 (.tup [.int x, .non]) = G5 at *
    fail "z run"
    intro w6 hw6
    have nw6 := (P2.same SS).ne' hw6
    have S := same_new (o := .tup [.non, .int y]) hw6
    have bw6 : upd G5 w6 (.tup [.non, .int y]) w6 = some (.tup [.non, .int y]) := upd_same
    replace bw1 := S _ _ bw1
    replace bw2 := S _ _ bw2
    replace bw3 := S _ _ bw3
    replace bw4 := S _ _ bw4
    replace bw5 := S _ _ bw5
    replace SS := SS.trans S
    clear S
    generalize upd G5 w6 (.tup [.non, .int y]) = G6 at *
    fail "z run"
    intro l1 hl1
    have nl1 := (P2.same SS).ne' hl1
    have S := same_new (o := .lst [.non, .bl true, .int 5, .str "1..5", .ref w1, .ref w2, .ref w3, .ref w4, .ref w5, .ref w6]) hl1
    have bl1 : upd G6 l1 (.lst [.non, .bl true, .int 5, .str "1..5", .ref w1, .ref w2, .ref w3, .ref w4, .ref w5, .ref w6]) l1 = some (.lst [.non, .bl true, .int 5, .str "1..5", .ref w1, .ref w2, .ref w3, .ref w4, .ref w5, .ref w6]) := upd_same
    replace bw1 := S _ _ bw1
    replace bw2 := S _ _ bw2
    replace bw3 := S _ _ bw3
    replace bw4 := S _ _ bw4
    replace bw5 := S _ _ bw5
    replace bw6 := S _ _ bw6
    replace SS := SS.trans S
    clear S
    generalize upd G6 l1 (.lst [.non, .bl true, .int 5, .str "1..5", .ref w1, .ref w2, .ref w3, .ref w4, .ref w5, .ref w6]) = G7 at *
    fail "z run"
    intro w7 hw7
    have nw7 := (P2.same SS).ne' hw7
    have S := same_new (o := .tup [.bl true, .int 5]) hw7
    have bw7 : upd G7 w7 (.tup [.bl true, .int 5]) w7 = some (.tup [.bl true, .int 5]) := upd_same
    replace bw1 := S _ _ bw1
    replace bw2 := S _ _ bw2
    replace bw3 := S _ _ bw3
    replace bw4 := S _ _ bw4
    replace bw5 := S _ _ bw5
    replace bw6 := S _ _ bw6
    replace bl1 := S _ _ bl1
    replace SS := SS.trans S
    clear S
    generalize upd G7 w7 (.tup [.bl true, .int 5]) = G8 at *
    fail "z run"
    intro w8 hw8
    have nw8 := (P2.same SS).ne' hw8
    have S := same_new (o := .tup [.int 0, .bl true]) hw8
    have bw8 : upd G8 w8 (.tup [.int 0, .bl true]) w8 = some (.tup [.int 0, .bl true]) := upd_same
    replace bw1 := S _ _ bw1
    replace bw2 := S _ _ bw2
    replace bw3 := S _ _ bw3
    replace bw4 := S _ _ bw4
    replace bw5 := S _ _ bw5
    replace bw6 := S _ _ bw6
    replace bl1 := S _ _ bl1
    replace bw7 := S _ _ bw7
    replace SS := SS.trans S
    clear S
    generalize upd G8 w8 (.tup [.int 0, .bl true]) = G9 at *
    fail "z run"
    refine ⟨by have := log_of (i := x) (by omega) (by omega); omega, ?_⟩
    fail "z run"
    intro w9 hw9
    have nw9 := (P2.same SS).ne' hw9
    have S := same_new (o := .tup [.str (Str.ofString (toString x)), .int y]) hw9
    have bw9 : upd G9 w9 (.tup [.str (Str.ofString (toString x)), .int y]) w9 = some (.tup [.str (Str.ofString (toString x)), .int y]) := upd_same
    replace bw1 := S _ _ bw1
    replace bw2 := S _ _ bw2
    replace bw3 := S _ _ bw3
    replace bw4 := S _ _ bw4
    replace bw5 := S _ _ bw5
    replace bw6 := S _ _ bw6
    replace bl1 := S _ _ bl1
    replace bw7 := S _ _ bw7
    replace bw8 := S _ _ bw8
    replace SS := SS.trans S
    clear S
    generalize upd G9 w9 (.tup [.str (Str.ofString (toString x)), .int y]) = G10 at *
    fail "z run"
    intro w10 hw10
    have nw10 := (P2.same SS).ne' hw10
    have S := same_new (o := .tup [.int (y + 1), .int x]) hw10
    have bw10 : upd G10 w10 (.tup [.int (y + 1), .int x]) w10 = some (.tup [.int (y + 1), .int x]) := upd_same
    replace bw1 := S _ _ bw1
    replace bw2 := S _ _ bw2
    replace bw3 := S _ _ bw3
    replace bw4 := S _ _ bw4
    replace bw5 := S _ _ bw5
    replace bw6 := S _ _ bw6
    replace bl1 := S _ _ bl1
    replace bw7 := S _ _ bw7
    replace bw8 := S _ _ bw8
    replace bw9 := S _ _ bw9
    replace SS := SS.trans S
    clear S
    generalize upd G10 w10 (.tup [.int (y + 1), .int x]) = G11 at *
    fail "z run"
    intro w11 hw11
    fail "z run"
    unfold tPairs
    fail "z run"
    refine ⟨upd_same, [(.inl x, .int y)], rfl, Nat.le_of_ble_eq_true rfl, ?_⟩
    rw [upd_upd, show mergeK [] [((.inl x : Key), V.int y)] = [(.inl x, .int y)] from rfl]
    have nw11 := (P2.same SS).ne' hw11
    have S := same_new (o := .dK [(.inl x, .int y)]) hw11
    have bw11 : upd G11 w11 (.dK [(.inl x, .int y)]) w11 = some (.dK [(.inl x, .int y)]) := upd_same
    replace bw1 := S _ _ bw1
    replace bw2 := S _ _ bw2
    replace bw3 := S _ _ bw3
    replace bw4 := S _ _ bw4
    replace bw5 := S _ _ bw5
    replace bw6 := S _ _ bw6
    replace bl1 := S _ _ bl1
    replace bw7 := S _ _ bw7
    replace bw8 := S _ _ bw8
    replace bw9 := S _ _ bw9
    replace bw10 := S _ _ bw10
    replace SS := SS.trans S
    clear S
    generalize upd G11 w11 (.dK [(.inl x, .int y)]) = G12 at *
    fail "z run"
    intro w13 hw13
    have nw13 := (P2.same SS).ne' hw13
    have S := same_new (o := .tup [.int x, .int y]) hw13
    have bw13 : upd G12 w13 (.tup [.int x, .int y]) w13 = some (.tup [.int x, .int y]) := upd_same
    replace bw1 := S _ _ bw1
    replace bw2 := S _ _ bw2
    replace bw3 := S _ _ bw3
    replace bw4 := S _ _ bw4
    replace bw5 := S _ _ bw5
    replace bw6 := S _ _ bw6
    replace bl1 := S _ _ bl1
    replace bw7 := S _ _ bw7
    replace bw8 := S _ _ bw8
    replace bw9 := S _ _ bw9
    replace bw10 := S _ _ bw10
    replace bw11 := S _ _ bw11
    replace SS := SS.trans S
    clear S
    generalize upd G12 w13 (.tup [.int x, .int y]) = G13 at *
    fail "z run"
    intro w12 hw12
    have nw12 := (P2.same SS).ne' hw12
    have S := same_new (o := .tup [.ref w13]) hw12
    have bw12 : upd G13 w12 (.tup [.ref w13]) w12 = some (.tup [.ref w13]) := upd_same
    replace bw1 := S _ _ bw1
    replace bw2 := S _ _ bw2
    replace bw3 := S _ _ bw3
    replace bw4 := S _ _ bw4
    replace bw5 := S _ _ bw5
    replace bw6 := S _ _ bw6
    replace bl1 := S _ _ bl1
    replace bw7 := S _ _ bw7
    replace bw8 := S _ _ bw8
    replace bw9 := S _ _ bw9
    replace bw10 := S _ _ bw10
    replace bw11 := S _ _ bw11
    replace bw13 := S _ _ bw13
    replace SS := SS.trans S
    clear S
    generalize upd G13 w12 (.tup [.ref w13]) = G14 at *
    fail "z run"
    intro l2 hl2
    have nl2 := (P2.same SS).ne' hl2
    have S := same_new (o := .lst [.ref w7, .ref w8, .ref w9, .ref w10, .ref w11, .ref w12]) hl2
    have bl2 : upd G14 l2 (.lst [.ref w7, .ref w8, .ref w9, .ref w10, .ref w11, .ref w12]) l2 = some (.lst [.ref w7, .ref w8, .ref w9, .ref w10, .ref w11, .ref w12]) := upd_same
    replace bw1 := S _ _ bw1
    replace bw2 := S _ _ bw2
    replace bw3 := S _ _ bw3
    replace bw4 := S _ _ bw4
    replace bw5 := S _ _ bw5
    replace bw6 := S _ _ bw6
    replace bl1 := S _ _ bl1
    replace bw7 := S _ _ bw7
    replace bw8 := S _ _ bw8
    replace bw9 := S _ _ bw9
    replace bw10 := S _ _ bw10
    replace bw11 := S _ _ bw11
    replace bw13 := S _ _ bw13
    replace bw12 := S _ _ bw12
    replace SS := SS.trans S
    clear S
    generalize upd G14 l2 (.lst [.ref w7, .ref w8, .ref w9, .ref w10, .ref w11, .ref w12]) = G15 at *
    fail "z run"
    refine ⟨l1, l2, _, _, rfl, rfl, bl1, bl2, few (Nat.le_of_ble_eq_true rfl), fun l3 hl3 => ?_⟩
    rw [show ([.non, .bl true, .int 5, .str "1..5", .ref w1, .ref w2, .ref w3, .ref w4, .ref w5, .ref w6] ++ [.ref w7, .ref w8, .ref w9, .ref w10, .ref w11, .ref w12] : List V) = [.non, .bl true, .int 5, .str "1..5", .ref w1, .ref w2, .ref w3, .ref w4, .ref w5, .ref w6, .ref w7, .ref w8, .ref w9, .ref w10, .ref w11, .ref w12] from rfl]
    have nl3 := (P2.same SS).ne' hl3
    have S := same_new (o := .lst [.non, .bl true, .int 5, .str "1..5", .ref w1, .ref w2, .ref w3, .ref w4, .ref w5, .ref w6, .ref w7, .ref w8, .ref w9, .ref w10, .ref w11, .ref w12]) hl3
    have bl3 : upd G15 l3 (.lst [.non, .bl true, .int 5, .str "1..5", .ref w1, .ref w2, .ref w3, .ref w4, .ref w5, .ref w6, .ref w7, .ref w8, .ref w9, .ref w10, .ref w11, .ref w12]) l3 = some (.lst [.non, .bl true, .int 5, .str "1..5", .ref w1, .ref w2, .ref w3, .ref w4, .ref w5, .ref w6, .ref w7, .ref w8, .ref w9, .ref w10, .ref w11, .ref w12]) := upd_same
    replace bw1 := S _ _ bw1
    replace bw2 := S _ _ bw2
    replace bw3 := S _ _ bw3
    replace bw4 := S _ _ bw4
    replace bw5 := S _ _ bw5
    replace bw6 := S _ _ bw6
    replace bl1 := S _ _ bl1
    replace bw7 := S _ _ bw7
    replace bw8 := S _ _ bw8
    replace bw9 := S _ _ bw9
    replace bw10 := S _ _ bw10
    replace bw11 := S _ _ bw11
    replace bw13 := S _ _ bw13
    replace bw12 := S _ _ bw12
    replace bl2 := S _ _ bl2
    replace SS := SS.trans S
    clear S
    generalize upd G15 l3 (.lst [.non, .bl true, .int 5, .str "1..5", .ref w1, .ref w2, .ref w3, .ref w4, .ref w5, .ref w6, .ref w7, .ref w8, .ref w9, .ref w10, .ref w11, .ref w12]) = G16 at *
    fail "z run"
    have P3 := P2.same SS
    have K3 : Kp p H G16 := (K1.trans K2).trans fun b o _ e => SS b o e
    have sx := (sm_int (k := 0) (i := x) (by omega) (by omega)).z
    have sy := (sm_int (k := 0) (i := y) (by omega) (by omega)).z
    have st := sz_text (i := x) (k := 0) (by omega) (by omega)
    have all : ∀ v ∈ [.non, .bl true, .int 5, .str "1..5", .ref w1, .ref w2, .ref w3, .ref w4, .ref w5, .ref w6, .ref w7, .ref w8, .ref w9, .ref w10, .ref w11, .ref w12], Vv p G16 v false := by
      intro v hv
      simp only [List.mem_cons, List.not_mem_nil, or_false] at hv
      rcases hv with rfl | rfl | rfl | rfl | rfl | rfl | rfl | rfl | rfl | rfl | rfl | rfl | rfl | rfl | rfl | rfl
      · exact ⟨.flat .non, _, .non, (sm_none (k := 0)).z.up (by decide) (by decide)⟩
      · exact ⟨.flat (.bl _), _, .bl _, (sm_bool (k := 0) _).z.up (by decide) (by decide)⟩
      · exact ⟨.flat (.int _), _, .int _, (sm_int (k := 0) (by decide) (by decide)).z.up (by decide) (by decide)⟩
      · exact ⟨.flat (.str _), _, .str _, (sm_str (k := 0) (by decide +kernel) (by decide +kernel) (by decide +kernel) (by decide +kernel)).z.up (by decide) (by decide)⟩
      · have c := del_at bw1 nw1
        exact ⟨.tup (by simp) (by simp) c, _, .tup c .nil, (sz_tup (k := 0) sz_nil).up (by decide) (by decide)⟩
      · have c := del_at bw2 nw2
        exact ⟨.lst (by simp) c, _, .lst zw2 c (.cons (.int _) (.cons (.int _) .nil)), (sz_list (sz_cons sx (sz_cons sy sz_nil))).up (by decide) (by decide)⟩
      · have c := del_at bw3 nw3
        exact ⟨.tup (by simp) (by simp) c, _, .tup c (.cons (.int _) .nil), (sz_tup (sz_cons sx sz_nil)).up (by decide) (by decide)⟩
      · have c := del_at bw4 nw4
        exact ⟨.tup (by simp) (by simp) c, _, .tup c (.cons (.int _) (.cons (.int _) (.cons (.int _) .nil))), (sz_tup (sz_cons sx (sz_cons sy (sz_cons sy sz_nil)))).up (by decide) (by decide)⟩
      · have c := del_at bw5 nw5
        exact ⟨.pair (.int _) .non c, _, .tup c (.cons (.int _) (.cons .non .nil)), (sz_tup (sz_cons sx (sz_cons (sm_none (k := 0)).z sz_nil))).up (by decide) (by decide)⟩
      · have c := del_at bw6 nw6
        exact ⟨.pair .non (.int _) c, _, .tup c (.cons .non (.cons (.int _) .nil)), (sz_tup (sz_cons (sm_none (k := 0)).z (sz_cons sy sz_nil))).up (by decide) (by decide)⟩
      · have c := del_at bw7 nw7
        exact ⟨.pair (.bl _) (.int _) c, _, .tup c (.cons (.bl _) (.cons (.int _) .nil)), (sz_tup (sz_cons (sm_bool (k := 0) _).z (sz_cons (sm_int (k := 0) (by decide) (by decide)).z sz_nil))).up (by decide) (by decide)⟩
      · have c := del_at bw8 nw8
        exact ⟨.pair (.int _) (.bl _) c, _, .tup c (.cons (.int _) (.cons (.bl _) .nil)), (sz_tup (sz_cons (sm_int (k := 0) (by decide) (by decide)).z (sz_cons (sm_bool (k := 0) _).z sz_nil))).up (by decide) (by decide)⟩
      · have c := del_at bw9 nw9
        exact ⟨.pair (.str _) (.int _) c, _, .tup c (.cons (.str _) (.cons (.int _) .nil)), (sz_tup (sz_cons st (sz_cons sy sz_nil))).up (by decide) (by decide)⟩
      · have c := del_at bw10 nw10
        have q : okS (.int (y + 1)) (.int x) = false := decide_eq_false (by omega)
        exact ⟨q ▸ .pair (.int _) (.int _) c, _, .tup c (.cons (.int _) (.cons (.int _) .nil)), (sz_tup (sz_cons (sm_int (k := 0) (i := y + 1) (by omega) (by omega)).z (sz_cons sx sz_nil))).up (by decide) (by decide)⟩
      · have c := del_at bw11 nw11
        exact ⟨.dK c, _, .d1 c, (sz_d1 (k := 0) (by omega) (by omega) (by omega) (by omega)).up (by decide) (by decide)⟩
      · have c := del_at bw12 nw12
        have c' := del_at bw13 nw13
        exact ⟨.tup (by simp) (by simp) c, _, .tup c (.cons (.tup c' (.cons (.int _) (.cons (.int _) .nil))) .nil), (sz_tup (sz_cons (sz_tup (sz_cons sx (sz_cons sy sz_nil))) sz_nil)).up (by decide) (by decide)⟩
    refine ⟨p, n + 1, 2, rfl, P3, by decide, by decide, fun r3 H5 r30 r31 K5 P5 => ?_⟩
    fail "z run"
    refine rd_ite (fun _ => ?_) (fun _ => ?_)
    · fail "z run"
      intro w hw
      have nw := P5.ne' hw
      have S := same_new (o := .tup [.int x, .int y]) hw
      have bw : upd H5 w (.tup [.int x, .int y]) w = some (.tup [.int x, .int y]) := upd_same
      generalize upd H5 w (.tup [.int x, .int y]) = H6 at *
      fail "z run"
      intro t ht
      have S' := S.trans (same_new (o := .tup [.ref w, .bl true]) ht)
      have c := del_at ((same_new (o := .tup [.ref w, .bl true]) ht) _ _ bw) nw
      have q : okS (.int x) (.int y) = true := decide_eq_true (by omega)
      have sv : SV (L2.del (upd H6 t (.tup [.ref w, .bl true])) p) (.ref w) true := by
        have z := SV.pair (.int x) (.int y) c
        rw [q] at z
        exact z
      exact k t (.ref w) true _ upd_same ⟨sv, _, .tup c (.cons (.int _) (.cons (.int _) .nil)), (sz_tup (sz_cons sx (sz_cons sy sz_nil))).up (by decide) (by decide)⟩ ((K3.trans K5).trans fun b o _ e => S' b o e) ((P5.same S').le (by omega))
    · fail "z run"
      have bl3' := K5 _ _ nl3 bl3
      refine ⟨p, l3, n, _, rfl, P5, nl3, bl3', by simp, by simp, fun v H6 hv K6 P6 => ?_⟩
      fail "z run"
      intro t ht
      have S := same_new (o := .tup [v, .bl false]) ht
      exact k t v false _ upd_same ((((all v hv).kp K5).kp K6).same S) (((K3.trans K5).trans K6).trans fun b o _ e => S b o e) (P6.same S)
/-! ### k08: what is heard of a call -/
abbrev s__law_heard : Stmt := (top 33)
abbrev N__law_heard : List Str := ["_law_call", "_law_caught", "error"]
abbrev P__law_heard : List Str := ["_law_call"]
theorem sc__law_heard : FnScope N__law_heard P__law_heard (defScope s__law_heard) := ⟨rfl, rfl, rfl, by decide +kernel, rfl, by decide +kernel, by decide +kernel⟩
abbrev s__law_right : Stmt := (top 34)
abbrev N__law_right : List Str := ["_law_pot", "_law_is_one", "_law_is_other", "_law_kept", "_law_due", "_law_told", "_law_kind", "_law_one", "_law_other"]
abbrev P__law_right : List Str := ["_law_pot"]
theorem sc__law_right : FnScope N__law_right P__law_right (defScope s__law_right) := ⟨rfl, rfl, rfl, by decide +kernel, rfl, by decide +kernel, by decide +kernel⟩

abbrev qLam : Str := "_law_right.<locals>.<lambda>"
/-- what hears a call makes of it -/
def THeard (CB : Addr) : (XK → Hp → VK → Prop) → Hp → VK → Prop := fun tl H Q => ∀ Q' : VK, (∀ v H', (∀ t, H' t = none → Q (.ref t) (upd H' t (.tup [.str "told", .non]))) → Q' v H') →
  tl (fun cls d H' => cls = .ref CB ∧ ∃ (dd : Addr) (v : V), d = some dd ∧ H' dd = some (.xd [("value", v)]) ∧ ∀ t, H' t = none → Q (.ref t) (upd H' t (.tup [.str "bad", v]))) H Q'
theorem heard_gives {X : Cx} {g CW C_BadSpan : Addr} {cdg : Value} {q : Str} (g_WidthError : X.mg "WidthError" = some (.ref CW)) (T : Txt X.mg) (n_ve : X.mg "ValueError" = none) (ET_BadSpan : ErrT X.K X.mg CW C_BadSpan "BadSpan") :
    LamX.GivesTo X N__law_heard "_law_heard" (defScope s__law_heard) g cdg (defBody s__law_heard) "_law_call" q (THeard C_BadSpan) := by
  have g_BadSpan := ET_BadSpan.g
  intro f c' s H Q tl act hc h
  refine ⟨_, pss_cons (ps_set (i := 1) sc__law_heard.nd rfl (Or.inl rfl) pe_non) (pss_keepL (i := 2) (c := .ref CW)
    (tb := fun W D σ H => ∃ Ech : XK, (∀ cls d σ' H', Ech cls d H' → W cls d σ' H') ∧ σ[0]? = some (some (.ref f)) ∧ H c' = some (LamX.CodeO c' q) ∧ tl Ech H (fun _ H' => D.nx σ H'))
    rfl rfl sc__law_heard.nd rfl rfl ⟨rfl, by decide, .inl g_WidthError⟩ (fun W pn xe tk => ?hb) (fun a oe cls d pn hz hf => (pss_one (ps_set (i := 1) sc__law_heard.nd rfl (Or.inl rfl) (pv 2)))) (pss_cons (ps_if (pt_cmpR op_isN (pv 1) pe_non (nomark _)) (pss_one (ps_ret (pe_tup (pa_cons pe_str (pa_cons pe_non pa_nil))))) pss_nil)
      (pss_cons (ps_if (PW.pt (pw_or (pt_not (pt_val (pe_callB call_isi (by rfl) T.n_isinstance (by decide +kernel) (pa_cons (pv 1) (pa_cons (pe_glob (v := .ref C_BadSpan) rfl g_BadSpan rfl) pa_nil))))) (pw_or1 (pt_not (pt_val (pe_callB call_isi (by rfl) T.n_isinstance (by decide +kernel) (pa_cons (pv 1) (pa_cons (pe_bltn (v := .ty "ValueError") (by rfl) n_ve (by decide +kernel) rfl) pa_nil)))))))) (pss_one (ps_ret (pe_tup (pa_cons pe_str (pa_cons pe_non pa_nil))))) pss_nil)
      (pss_one (ps_ret (pe_tup (pa_cons pe_str (pa_cons (pe_fld (pv 1) rfl) pa_nil))))))) (fun a oe cls d pn hz hf => (pss_cons (ps_if (pt_cmpR op_isN (pv 1) pe_non (nomark _)) (pss_one (ps_ret (pe_tup (pa_cons pe_str (pa_cons pe_non pa_nil))))) pss_nil)
      (pss_cons (ps_if (PW.pt (pw_or (pt_not (pt_val (pe_callB (call_isK hz hf) (by rfl) T.n_isinstance (by decide +kernel) (pa_cons (pv 1) (pa_cons (pe_glob (v := .ref C_BadSpan) rfl g_BadSpan rfl) pa_nil))))) (pw_or1 (pt_not (pt_val (pe_callB (call_isK hz hf) (by rfl) T.n_isinstance (by decide +kernel) (pa_cons (pv 1) (pa_cons (pe_bltn (v := .ty "ValueError") (by rfl) n_ve (by decide +kernel) rfl) pa_nil)))))))) (pss_one (ps_ret (pe_tup (pa_cons pe_str (pa_cons pe_non pa_nil))))) pss_nil)
      (pss_one (ps_ret (pe_tup (pa_cons pe_str (pa_cons (pe_xfK hz hf (pv 1)) pa_nil))))))))), ?_⟩
  case hb =>
    refine ⟨fun pins s' σ H' D I h' => ?_⟩
    obtain ⟨Ech, hW, h1, h2, h3⟩ := h'
    exact (pss_one (ps_expr (act W pn xe Ech _ _ tk hW))).run pins s' σ H' D I ⟨h1, h2, h3⟩
  · fail "z run"
    refine ⟨_, ?_, rfl, hc, h _ fun v H' k => ?_⟩
    · rintro cls d σ' H' ⟨rfl, dd, v, rfl, ed, k⟩
      refine ⟨ET_BadSpan.me, fun a na len => ?_⟩
      have len' : σ'.length = 3 := len
      match σ', len' with
      | [x0, x1, x2], _ =>
      fail "z run"
      refine rd_ite (fun z => nomatch z) (fun _ => ?_)
      fail "z run"
      refine ⟨C_BadSpan, dd, _, _, _, true, rfl, rfl, ET_BadSpan.ek, rfl, ed, fun _ h => h, ET_BadSpan.kc, ?_⟩
      fail "z run"
      refine iteF ?_
      fail "z run"
      refine ⟨C_BadSpan, dd, _, _, _, true, rfl, rfl, ET_BadSpan.ek, rfl, ed, fun _ h => h, ET_BadSpan.kv, ?_⟩
      fail "z run"
      refine iteF ?_
      fail "z run"
      unfold tXfP
      fail "z run"
      refine ⟨rfl, C_BadSpan, dd, _, v, rfl, ET_BadSpan.ek, ET_BadSpan.nv, rfl, ed, by simp [List.lookup], ?_⟩
      fail "z run"
      exact k
    · fail "z run"
      refine rd_ite (fun _ => ?_) (fun z => absurd rfl z)
      fail "z run"
      exact k
/-! ### k08: the law's turn -/
def KpT (p : Addr) (H H' : Hp) : Prop := ∀ b o, b ≠ p → (∀ ps, o ≠ .tbl ps) → H b = some o → H' b = some o
theorem KpT.of {p : Addr} {H H' : Hp} (k : Kp p H H') : KpT p H H' := fun b o n _ e => k b o n e
theorem KpT.ofS {p : Addr} {H H' : Hp} (s : Same H H') : KpT p H H' := fun b o _ _ e => s b o e
theorem KpT.ofN {p : Addr} {H H' : Hp} (x : LamX.ExtN H H') : KpT p H H' := fun b o _ n e => x b o e n
theorem KpT.trans {p : Addr} {H H1 H2 : Hp} (a : KpT p H H1) (b : KpT p H1 H2) : KpT p H H2 := fun c o n t e => b c o n t (a c o n t e)
mutual
theorem Dz.ext {H H' : Hp} (S : LamX.ExtN H H') : ∀ {v : V} {d : PyData}, Dz H v d → Dz H' v d
  | _, _, .non => .non
  | _, _, .bl b => .bl b
  | _, _, .int i => .int i
  | _, _, .str x => .str x
  | _, _, .lst na ha hd => .lst na (S _ _ ha fun _ z => nomatch z) (DzAll.ext S hd)
  | _, _, .tup ha hd => .tup (S _ _ ha fun _ z => nomatch z) (DzAll.ext S hd)
  | _, _, .d0 ha => .d0 (S _ _ ha fun _ z => nomatch z)
  | _, _, .d1 ha => .d1 (S _ _ ha fun _ z => nomatch z)
theorem DzAll.ext {H H' : Hp} (S : LamX.ExtN H H') : ∀ {vs : List V} {ds : List PyData}, DzAll H vs ds → DzAll H' vs ds
  | _, _, .nil => .nil
  | _, _, .cons h t => .cons (Dz.ext S h) (DzAll.ext S t)
end
theorem SV.ext {H H' : Hp} {v : V} {b : Bool} (h : SV H v b) (s : LamX.ExtN H H') : SV H' v b := by
  cases h with
  | flat f => exact .flat f
  | lst n e => exact .lst n (s _ _ e fun _ z => nomatch z)
  | dK e => exact .dK (s _ _ e fun _ z => nomatch z)
  | tup n l e => exact .tup n l (s _ _ e fun _ z => nomatch z)
  | pair fx fy e => exact .pair fx fy (s _ _ e fun _ z => nomatch z)
theorem del_ext {H H' : Hp} {p : Addr} (k : KpT p H H') : LamX.ExtN (L2.del H p) (L2.del H' p) := fun b o e n => by
  by_cases h : b = p
  · subst h
    rw [del_same] at e
    cases e
  · rw [del_ne h] at e ⊢
    exact k b o h n e
theorem Vv.ext {p : Addr} {H H' : Hp} {v : V} {b : Bool} (h : Vv p H v b) (k : KpT p H H') : Vv p H' v b := ⟨h.1.ext (del_ext k), let ⟨d, x, y⟩ := h.2; ⟨d, x.ext (del_ext k), y⟩⟩
theorem IsKind.ext {C a : Addr} {H H' : Hp} {lo hi : Int} (h : IsKind C H a lo hi) (x : LamX.ExtN H H') : IsKind C H' a lo hi := by
  obtain ⟨dx, e⟩ := h
  exact ⟨dx, x _ _ e fun _ z => nomatch z⟩
theorem Pot.ext {H H' : Hp} {p : Addr} {n : Nat} (h : Pot H p n) (x : LamX.ExtN H H') : Pot H' p n := by
  obtain ⟨o, s, c, e, r⟩ := h
  exact ⟨o, s, c, x _ _ e (fun _ z => nomatch z), r⟩
theorem tabs_kp {T : List (Addr × Str)} {H H' : Hp} {p : Addr} {n : Nat} (t : LamX.Tabs T H) (hp : Pot H p n) (k : Kp p H H') : LamX.Tabs T H' := fun q hq => by
  obtain ⟨o, s, c, ep, _⟩ := hp
  obtain ⟨ps, h1, h2, h3⟩ := t q hq
  refine ⟨ps, k _ _ (fun z => by rw [z, ep] at h1; cases h1) h1, h2, fun pos cv hc => ?_⟩
  obtain ⟨c', e1, e2⟩ := h3 pos cv hc
  refine ⟨c', e1, k _ _ (fun z => ?_) e2⟩
  rw [z, ep] at e2
  unfold LamX.CodeO at e2
  cases e2
theorem tabs_upd {T : List (Addr × Str)} {H : Hp} {l : Addr} {xs : List V} {o : HO} (t : LamX.Tabs T H) (hl : H l = some (.lst xs)) : LamX.Tabs T (upd H l o) := fun q hq => by
  obtain ⟨ps, h1, h2, h3⟩ := t q hq
  refine ⟨ps, (upd_ne fun z => by rw [z, hl] at h1; cases h1).trans h1, h2, fun pos cv hc => ?_⟩
  obtain ⟨c', e1, e2⟩ := h3 pos cv hc
  refine ⟨c', e1, (upd_ne fun z => ?_).trans e2⟩
  rw [z, hl] at e2
  unfold LamX.CodeO at e2
  cases e2
theorem obj_kp {p t : Addr} {H H' : Hp} {n : Nat} {o : HO} (h : H t = some o) (hp : Pot H p n) (k : Kp p H H') (ne : ∀ a b c : Int, o ≠ .lst [.int a, .int b, .int c]) : H' t = some o := by
  obtain ⟨x, z, c, ep, _⟩ := hp
  exact k _ _ (fun q => by rw [q, ep] at h; exact ne _ _ _ (Option.some.inj h).symm) h
theorem IsKind.kp' {C a p : Addr} {H H' : Hp} {lo hi : Int} {n : Nat} (h : IsKind C H a lo hi) (hp : Pot H p n) (k : Kp p H H') : IsKind C H' a lo hi := by
  obtain ⟨dx, e⟩ := h
  exact ⟨dx, obj_kp e hp k fun _ _ _ z => nomatch z⟩
/-- what is told of a call with the spans u, v -/
def dueOf (b1 b2 : Bool) (u v : V) : List V := if (b1 && b2) = true then [.str "told", .non] else [.str "bad", if b1 = true then v else u]
def dueD (b1 b2 : Bool) (d1 d2 : PyData) : PyData := if (b1 && b2) = true then .tuple [.str "told", .none] else .tuple [.str "bad", if b1 = true then d2 else d1]
theorem dz_due {H : Hp} {t : Addr} {u v : V} {b1 b2 : Bool} {d1 d2 : PyData} (h : H t = some (.tup (dueOf b1 b2 u v))) (h1 : Dz H u d1) (h2 : Dz H v d2) : Dz H (.ref t) (dueD b1 b2 d1 d2) := by
  cases b1 <;> cases b2
  · exact .tup h (.cons (.str _) (.cons h1 .nil))
  · exact .tup h (.cons (.str _) (.cons h1 .nil))
  · exact .tup h (.cons (.str _) (.cons h2 .nil))
  · exact .tup h (.cons (.str _) (.cons .non .nil))
theorem sz_due {b1 b2 : Bool} {d1 d2 : PyData} (h1 : Sz 3 2000 d1) (h2 : Sz 3 2000 d2) : Sz 4 3000 (dueD b1 b2 d1 d2) := by
  have t : Sz 3 300 (.str "told") := (sm_str (k := 0) (by decide +kernel) (by decide +kernel) (by decide +kernel) (by decide +kernel)).z.up (by decide) (by decide)
  have b : Sz 3 300 (.str "bad") := (sm_str (k := 0) (by decide +kernel) (by decide +kernel) (by decide +kernel) (by decide +kernel)).z.up (by decide) (by decide)
  have z : Sz 3 0 .none := (sm_none (k := 0)).z.up (by decide) (by decide)
  cases b1 <;> cases b2
  · exact (sz_tup (sz_cons b (sz_cons h1 sz_nil))).up (by decide) (by decide)
  · exact (sz_tup (sz_cons b (sz_cons h1 sz_nil))).up (by decide) (by decide)
  · exact (sz_tup (sz_cons b (sz_cons h2 sz_nil))).up (by decide) (by decide)
  · exact (sz_tup (sz_cons t (sz_cons z sz_nil))).up (by decide) (by decide)
theorem heard_win {C CB kd : Addr} {σ : L2.St} {H1 : Hp} {Q : VK} {u v : V} {b1 b2 : Bool} {lo hi : Int} (s6 : σ[6]? = some (some (.ref kd))) (s7 : σ[7]? = some (some u)) (s8 : σ[8]? = some (some v)) (ik : IsKind C H1 kd lo hi) (h1 : lo ≤ 0) (h2 : 0 ≤ hi) (sv1 : SV H1 u b1) (sv2 : SV H1 v b2)
    (k : ∀ t H', Same H1 H' → H' t = some (.tup (dueOf b1 b2 u v)) → Q (.ref t) H') : THeard CB (fun E H' Q' => tCall (spWinX C CB) [] E (tCons (tVar 6) (tCons (tVar 7) (tCons (tVar 8) tNil))) σ H' Q') H1 Q := by
  intro Q' hQ
  refine Zg.rd_call (Zg.rd_cons (Zg.rd_var s6 (Zg.rd_cons (Zg.rd_var s7 (Zg.rd_cons (Zg.rd_var s8 (Zg.rd_nil ?_)))))))
  refine ⟨kd, u, v, lo, hi, b1, b2, rfl, ik, h1, h2, sv1, sv2, fun hb r H' S => hQ r H' fun t nt => k t _ (S.trans (same_new nt)) ?_, fun hb d H' S ed => ⟨rfl, d, _, rfl, ed, fun t nt => k t _ (S.trans (same_new nt)) ?_⟩⟩
  · unfold dueOf
    rw [if_pos hb]
    exact upd_same
  · unfold dueOf
    rw [if_neg (show ¬ (b1 && b2) = true by rw [hb]; exact Bool.false_ne_true)]
    exact upd_same
theorem rd_dueAsg {te : TE} {D : Ends} {σ : L2.St} {H : Hp} {L : List V} {n : Nat} (h : ∀ Q : VK, (∀ t, H t = none → Q (.ref t) (upd H t (.tup L))) → te σ H Q) (k : ∀ t, H t = none → D.nx (σ.set n (some (.ref t))) (upd H t (.tup L))) : tAsg te (gName n) D σ H := h _ fun t nt => k t nt
def spRightT (PT : Addr) (n : Nat) : Sp := fun vs H Q _ => ∃ (p : Addr) (m : Nat), vs = [.ref p] ∧ Pot H p (m + n) ∧ LamX.Tabs [(PT, qLam)] H ∧ ∀ H', KpT p H H' → Pot H' p m → LamX.Tabs [(PT, qLam)] H' → Q (.bl true) H'
theorem ok_right {f C CW C_BadSpan cR PT fh : Addr} {fd : FuncData} {oc kV doc pm cdv ct : Value} {od an : Option Addr} {osl : Array (Option Value)} (F : FunC K "_law_right" "_law_right" s__law_right f fd (.ref cR)) (TB : LamX.TabB base mg cR PT) (T : Txt mg) (n_ve : mg "ValueError" = none)
    (g_WidthError : mg "WidthError" = some (.ref CW)) (ET_BadSpan : ErrT K mg CW C_BadSpan "BadSpan") (c_take : Cal P w K mg base 1 "_law_take" P__law_take spTake) (c_kind : CalK P w K mg base C) (c_val : Cal P w K mg base 3 "_law_value" P__law_value spVal)
    (c_al : CalX P w K mg base 4 "alike" P_alike (spWinX C C_BadSpan)) (c_or : CalX P w K mg base 4 "ordered" P_ordered (spWinX C C_BadSpan)) (g__law_heard : mg "_law_heard" = some (.ref fh)) (k__law_heard : PySem.W.keepIn K (.ref fh) = true)
    (l__law_heard : K.lookup fh = some ⟨oc, od, .func (PySem.W.fnOf "_law_heard" "_law_heard" (defArgs s__law_heard) (defBody s__law_heard) (defScope s__law_heard) .none kV doc pm an cdv ct), osl⟩) (c__law_heard : PySem.W.codeIn K cdv "_law_heard" = true)
    (b__law_heard : L2.Binds K (PySem.W.fnOf "_law_heard" "_law_heard" (defArgs s__law_heard) (defBody s__law_heard) (defScope s__law_heard) .none kV doc pm an cdv ct) P__law_heard []) : FnG P w K mg base CX0 7 f fd P__law_right (spRightT PT 10) := by
  obtain ⟨f_take, fd_take, G__law_take, b__law_take, g__law_take, k__law_take⟩ := c_take
  obtain ⟨f_kind, fd_kind, mk_Kind, G_Kind, b_Kind, g_Kind⟩ := c_kind
  obtain ⟨f_val, fd_val, G__law_value, b__law_value, g__law_value, k__law_value⟩ := c_val
  obtain ⟨f_al, fd_al, G_alike, b_alike, g_alike, k_alike⟩ := c_al
  obtain ⟨f_or, fd_or, G_ordered, b_ordered, g_ordered, k_ordered⟩ := c_or
  refine Fun_okGc F sc__law_right (fun vs H Q E h => ?_) (fun A outer s H vs Q E calm hr h => ?_)
  · obtain ⟨p, n, rfl, _⟩ := h
    rfl
  · obtain ⟨p, n, rfl, hp, tb, k⟩ := h
    refine ⟨_, (pss_cons (ps_set (i := 6) sc__law_right.nd rfl (Or.inr rfl) (pe_make mk_Kind G_Kind (hr.mono (by decide)) rfl g_Kind b_Kind .nil pass0 (pa_cons (pe_un un_neg (pe_call G__law_take (hr.mono (by decide)) rfl g__law_take k__law_take b__law_take .nil pass0 (pa_cons (pv 0) (pa_cons pe_int pa_nil)))) (pa_cons (pe_call G__law_take (hr.mono (by decide)) rfl g__law_take k__law_take b__law_take .nil pass0 (pa_cons (pv 0) (pa_cons pe_int pa_nil))) pa_nil))))
      (pss_cons (ps_asg (pe_tup (pa_cons (pe_call G__law_value (hr.mono (by decide)) rfl g__law_value k__law_value b__law_value .nil pass0 (pa_cons (pv 0) pa_nil)) (pa_cons (pe_call G__law_value (hr.mono (by decide)) rfl g__law_value k__law_value b__law_value .nil pass0 (pa_cons (pv 0) pa_nil)) pa_nil))) (pg_tup rfl (pgs_cons (pg_tup rfl (pgs_cons (pg_name (i := 7) sc__law_right.nd rfl (Or.inr rfl)) (pgs_cons (pg_name (i := 1) sc__law_right.nd rfl (Or.inl rfl)) pgs_nil))) (pgs_cons (pg_tup rfl (pgs_cons (pg_name (i := 8) sc__law_right.nd rfl (Or.inr rfl)) (pgs_cons (pg_name (i := 2) sc__law_right.nd rfl (Or.inl rfl)) pgs_nil))) pgs_nil))))
      (pss_cons (ps_set (i := 3) sc__law_right.nd rfl (Or.inl rfl) (pe_callB (call_reprZ calm (hu70 hr)) (by rfl) T.n_repr (by decide +kernel) (pa_cons (pe_tup (pa_cons (pv 7) (pa_cons (pv 8) pa_nil))) pa_nil)))
      (pss_cons (ps_set (i := 4) sc__law_right.nd rfl (Or.inl rfl) (pe_ifExp (PW.pt (pw_and (pt_val (pv 1)) (pw_and1 (pt_val (pv 2))))) (pe_tup (pa_cons pe_str (pa_cons pe_non pa_nil))) (pe_tup (pa_cons pe_str (pa_cons (pe_ifExp (pt_val (pv 1)) (pv 8) (pv 7)) pa_nil)))))
      (pss_cons (ps_set (i := 5) sc__law_right.nd rfl (Or.inl rfl) (pe_lstN (pa_cons (LamX.pe_lamcall (T := [(PT, qLam)]) (k := 4) rfl g__law_heard k__law_heard l__law_heard c__law_heard b__law_heard sc__law_heard rfl (Or.inl rfl) (heard_gives g_WidthError T n_ve ET_BadSpan) TB rfl (List.mem_singleton.mpr rfl) (fun p hp _ => by rw [List.mem_singleton.mp hp]; rfl) (hr.mono (by decide)) (show LamX.LamS (defScope s__law_right) _ from LamX.lamS_by (by decide +kernel)) rfl (fun _ _ _ _ _ => rfl) (fun A outer s H E f c' hr => (pe_call G_alike (hr.mono (by decide)) rfl g_alike k_alike b_alike .nil (passes_call (takes_of rfl rfl rfl rfl) (fun _ _ _ _ h => h)) (pa_cons (pv 6) (pa_cons (pv 7) (pa_cons (pv 8) pa_nil)))))) pa_nil)))
      (pss_cons (ps_expr (pe_bm PySem.F.plainAttrs_list PySem.F.slot_list_append PySem.F.type_list_append mt_append (pv 5) (pa_cons (LamX.pe_lamcall (T := [(PT, qLam)]) (k := 4) rfl g__law_heard k__law_heard l__law_heard c__law_heard b__law_heard sc__law_heard rfl (Or.inl rfl) (heard_gives g_WidthError T n_ve ET_BadSpan) TB rfl (List.mem_singleton.mpr rfl) (fun p hp _ => by rw [List.mem_singleton.mp hp]; rfl) (hr.mono (by decide)) (show LamX.LamS (defScope s__law_right) _ from LamX.lamS_by (by decide +kernel)) rfl (fun _ _ _ _ _ => rfl) (fun A outer s H E f c' hr => (pe_call G_ordered (hr.mono (by decide)) rfl g_ordered k_ordered b_ordered .nil (passes_call (takes_of rfl rfl rfl rfl) (fun _ _ _ _ h => h)) (pa_cons (pv 6) (pa_cons (pv 7) (pa_cons (pv 8) pa_nil)))))) pa_nil)))
      (pss_one (ps_ret (pe_and (pe_cmpR op_eq (pe_callB (call_reprZ calm (hu70 hr)) (by rfl) T.n_repr (by decide +kernel) (pa_cons (pv 5) pa_nil)) (pe_callB (call_reprZ calm (hu70 hr)) (by rfl) T.n_repr (by decide +kernel) (pa_cons (pe_op op_repN (pe_lstN (pa_cons (pv 4) pa_nil)) pe_int) pa_nil)) (nomark _)) (pe_one (pe_cmpR op_eq (pe_callB (call_reprZ calm (hu70 hr)) (by rfl) T.n_repr (by decide +kernel) (pa_cons (pe_tup (pa_cons (pv 7) (pa_cons (pv 8) pa_nil))) pa_nil)) (pv 3) (nomark _)))))))))))), ?_⟩
    rw [show L2.start N__law_right [V.ref p] = [some (.ref p), none, none, none, none, none, none, none, none] from rfl]
    fail "z run"
    refine ⟨p, n + 9, 200, rfl, hp, by decide, by decide, fun r1 H1 r10 r11 K1 P1 => ?_⟩
    fail "z run"
    refine ⟨p, n + 8, 300, rfl, P1, by decide, by decide, fun r2 H2 r20 r21 K2 P2 => ?_⟩
    fail "z run"
    refine rd_Kind (lo := -r1) (hi := r2) (by omega) (by omega) fun kd H3 nk S3 k3 => ?_
    have P3 := P2.same S3
    have tb3 := (tabs_kp (tabs_kp tb hp K1) P1 K2).ext S3
    have K3 : KpT p H H3 := ((KpT.of K1).trans (.of K2)).trans (.ofS S3)
    fail "z run"
    simp only [List.set_cons_succ, List.set_cons_zero]
    refine ⟨p, n + 4, rfl, P3, fun t1 u b1 H4 ht1 V1 K4 P4 => ?_⟩
    fail "z run"
    refine ⟨p, n, rfl, P4, fun t2 v b2 H5 ht2 V2 K5 P5 => ?_⟩
    have ht1' := obj_kp ht1 P4 K5 fun _ _ _ z => nomatch z
    have tb5 := tabs_kp (tabs_kp tb3 P3 K4) P4 K5
    have k5 := (k3.kp' P3 K4).kp' P4 K5
    have K5' := (K3.trans (.of K4)).trans (.of K5)
    have V1' := V1.kp K5
    fail "z run"
    intro tt htt
    have S6 := same_new (o := .tup [.ref t1, .ref t2]) htt
    have htt' : upd H5 tt (.tup [.ref t1, .ref t2]) tt = some (.tup [.ref t1, .ref t2]) := upd_same
    replace ht1' := S6 _ _ ht1'
    replace ht2 := S6 _ _ ht2
    have k6 := k5.same S6
    have P6 := P5.same S6
    have tb6 := tb5.ext S6
    have K6 := K5'.trans (.ofS S6)
    replace V1' := V1'.same S6
    replace V2 := V2.same S6
    generalize upd H5 tt (.tup [.ref t1, .ref t2]) = H6 at *
    refine rd_gtup htt' rfl ?_
    fail "z run"
    refine rd_gtup ht1' rfl ?_
    fail "z run"
    refine rd_gtup ht2 rfl ?_
    fail "z run"
    simp only [List.set_cons_succ, List.set_cons_zero]
    intro t3 ht3
    have S7 := same_new (o := .tup [u, v]) ht3
    have ht3' : upd H6 t3 (.tup [u, v]) t3 = some (.tup [u, v]) := upd_same
    have k7 := k6.same S7
    have P7 := P6.same S7
    have tb7 := tb6.ext S7
    have K7 := K6.trans (.ofS S7)
    obtain ⟨sv1, d1, y1, z1⟩ := V1'.same S7
    obtain ⟨sv2, d2, y2, z2⟩ := V2.same S7
    generalize upd H6 t3 (.tup [u, v]) = H7 at *
    have sz := sz_tup (sz_cons z1 (sz_cons z2 sz_nil))
    fail "z run"
    refine rd_reprZ (.tup ht3' (.cons (y1.same del_sub) (.cons (y2.same del_sub) .nil))) sz (by decide) (by decide) ?_
    refine Zg.rd_name ?_
    refine Zg.rd_seq ?_
    refine rd_dueAsg (L := dueOf b1 b2 u v) (fun Q' hQ => ?_) (fun td htd => ?_)
    · cases b1 <;> cases b2 <;> (fail "z run"; exact hQ)
    have S8 := same_new (o := .tup (dueOf b1 b2 u v)) htd
    have htd' : upd H7 td (.tup (dueOf b1 b2 u v)) td = some (.tup (dueOf b1 b2 u v)) := upd_same
    have k8 := k7.same S8
    have P8 := P7.same S8
    have tb8 := tb7.ext S8
    have K8 := K7.trans (.ofS S8)
    have W8 : KpT p H7 (upd H7 td (.tup (dueOf b1 b2 u v))) := .ofS S8
    generalize upd H7 td (.tup (dueOf b1 b2 u v)) = H8 at *
    unfold tLstN LamX.tLam
    fail "z run"
    simp only [List.set_cons_succ, List.set_cons_zero]
    refine ⟨tb8, fun H9 X9 T9 => ?_⟩
    have W9 := W8.trans (.ofN X9)
    replace htd' := X9 _ _ htd' fun _ z => nomatch z
    refine heard_win rfl rfl rfl (k8.ext X9) (by omega) (by omega) ((sv1.ext (del_ext W9)).same del_sub) ((sv2.ext (del_ext W9)).same del_sub) fun t4 H10 S10 ht4 => ?_
    have k10 := (k8.ext X9).same S10
    have P10 := (P8.ext X9).same S10
    have tb10 := T9.ext S10
    have K10 := (K8.trans (.ofN X9)).trans (.ofS S10)
    have W10 := W9.trans (.ofS S10)
    replace htd' := S10 _ _ htd'
    fail "z run"
    refine ⟨few (Nat.le_of_ble_eq_true rfl), fun l zl hl => ?_⟩
    have S11 := same_new (o := .lst [.ref t4]) hl
    have bl : upd H10 l (.lst [.ref t4]) l = some (.lst [.ref t4]) := upd_same
    have nl := P10.ne' hl
    have nlt := ne_of_none ht4 hl
    have nld := ne_of_none htd' hl
    replace htd' := S11 _ _ htd'
    replace ht4 := S11 _ _ ht4
    have k11 := k10.same S11
    have P11 := P10.same S11
    have tb11 := tb10.ext S11
    have K11 := K10.trans (.ofS S11)
    have W11 := W10.trans (.ofS S11)
    generalize upd H10 l (.lst [.ref t4]) = H11 at *
    fail "z run"
    simp only [List.set_cons_succ, List.set_cons_zero]
    refine ⟨.inl ⟨rfl, _, SqL.of bl⟩, ?_⟩
    fail "z run"
    refine ⟨tb11, fun H12 X12 T12 => ?_⟩
    have W12 := W11.trans (.ofN X12)
    refine heard_win rfl rfl rfl (k11.ext X12) (by omega) (by omega) ((sv1.ext (del_ext W12)).same del_sub) ((sv2.ext (del_ext W12)).same del_sub) fun t5 H13 S13 ht5 => ?_
    have bl13 := S13 _ _ (X12 _ _ bl fun _ z => nomatch z)
    replace ht4 := S13 _ _ (X12 _ _ ht4 fun _ z => nomatch z)
    replace htd' := S13 _ _ (X12 _ _ htd' fun _ z => nomatch z)
    have n5 : t5 ≠ l := ne_of ht5 bl13 fun z => nomatch z
    have P13 := (P11.ext X12).same S13
    have tb13 := T12.ext S13
    have K13 := (K11.trans (.ofN X12)).trans (.ofS S13)
    have W13 := W12.trans (.ofS S13)
    fail "z run"
    refine ⟨l, _, _, rfl, rfl, bl13, small1000 (Nat.le_of_ble_eq_true rfl), ?_⟩
    rw [show ([V.ref t4] ++ [V.ref t5] : List V) = [.ref t4, .ref t5] from rfl]
    have bl14 : upd H13 l (.lst [.ref t4, .ref t5]) l = some (.lst [.ref t4, .ref t5]) := upd_same
    have ht4' := (upd_ne (o := .lst [.ref t4, .ref t5]) nlt).trans ht4
    have ht5' := (upd_ne (o := .lst [.ref t4, .ref t5]) n5).trans ht5
    have htd'' := (upd_ne (o := .lst [.ref t4, .ref t5]) nld).trans htd'
    have P14 : Pot (upd H13 l (.lst [.ref t4, .ref t5])) p n := by
      obtain ⟨o, s, c, e, r⟩ := P13
      exact ⟨o, s, c, (upd_ne nl.symm).trans e, r⟩
    have tb14 := tabs_upd (o := .lst [.ref t4, .ref t5]) tb13 bl13
    have K14 : KpT p H (upd H13 l (.lst [.ref t4, .ref t5])) := fun b o nb nt e => (upd_ne (ne_of_none (K10 b o nb nt e) hl)).trans (K13 b o nb nt e)
    have W14 : KpT p H7 (upd H13 l (.lst [.ref t4, .ref t5])) := fun b o nb nt e => (upd_ne (ne_of_none (W10 b o nb nt e) hl)).trans (W13 b o nb nt e)
    generalize upd H13 l (.lst [.ref t4, .ref t5]) = H14 at *
    have D1 := (y1.ext (del_ext W14)).same del_sub
    have D2 := (y2.ext (del_ext W14)).same del_sub
    have zz := sz_list (sz_cons (sz_due (b1 := b1) (b2 := b2) z1 z2) (sz_cons (sz_due (b1 := b1) (b2 := b2) z1 z2) sz_nil))
    fail "z run"
    refine rd_reprZ (.lst zl bl14 (.cons (dz_due ht4' D1 D2) (.cons (dz_due ht5' D1 D2) .nil))) zz (by decide) (by decide) ?_
    fail "z run"
    refine ⟨few (Nat.le_of_ble_eq_true rfl), fun l2 zl2 hl2 => ?_⟩
    fail "z run"
    refine ⟨l2, 2, [.ref td], rfl, rfl, upd_same, by decide, by decide, (show 1 * 2 ≤ sizeLine from few (by decide)), fun l3 zl3 hl3 => ?_⟩
    rw [show (List.replicate (Int.toNat 2) [V.ref td]).flatten = [.ref td, .ref td] from rfl]
    have S15 := (same_new (o := .lst [.ref td]) hl2).trans (same_new (o := .lst [.ref td, .ref td]) hl3)
    have bl15 : upd (upd H14 l2 (.lst [.ref td])) l3 (.lst [.ref td, .ref td]) l3 = some (.lst [.ref td, .ref td]) := upd_same
    generalize upd (upd H14 l2 (.lst [.ref td])) l3 (.lst [.ref td, .ref td]) = H15 at *
    have E1 := D1.same S15
    have E2 := D2.same S15
    replace htd'' := S15 _ _ htd''
    fail "z run"
    refine rd_reprZ (.lst zl3 bl15 (.cons (dz_due htd'' E1 E2) (.cons (dz_due htd'' E1 E2) .nil))) zz (by decide) (by decide) ?_
    fail "z run"
    refine rd_ite (fun _ => ?_) (fun ne => absurd rfl ne)
    fail "z run"
    intro t6 ht6
    have S16 := same_new (o := .tup [u, v]) ht6
    fail "z run"
    refine rd_reprZ (.tup upd_same (.cons (E1.same S16) (.cons (E2.same S16) .nil))) sz (by decide) (by decide) ?_
    fail "z run"
    rw [decide_eq_true rfl]
    exact k _ (K14.trans (.ofS (S15.trans S16))) ((P14.same S15).same S16) ((tb14.ext S15).ext S16)
abbrev s_law : Stmt := (top 35)
abbrev N_law : List Str := ["_law_script", "_law_k", "_law_pot", "_law_turn"]
abbrev P_law : List Str := ["_law_script"]
theorem sc_law : FnScope N_law P_law (defScope s_law) := ⟨rfl, rfl, rfl, by decide +kernel, rfl, by decide +kernel, by decide +kernel⟩

def spLaw (K : PySem.W.Frag) (PT : Addr) : Sp := fun vs H Q _ => ∃ (a : Addr) (ns : List Int), vs = [.ref a] ∧ H PT = some (.tbl #[]) ∧ SqL K H a (ns.map V.int) ∧ ns.length ≤ 63 ∧ ∀ H', Q (.bl true) H'
theorem sql_kpT {K : PySem.W.Frag} {H H1 H2 : Hp} {a p : Addr} {xs : List V} (h : SqL K H a xs) (hp : H p = none) (s : Same H H1) (k : KpT p H1 H2) : SqL K H2 a xs := by
  rcases h with (h | ⟨o, h⟩) | h
  · exact .inl (.inl (k _ _ (ne_of_none h hp) (fun _ z => by cases z) (s _ _ h)))
  · exact .inl (.inr ⟨o, k _ _ (ne_of_none h hp) (fun _ z => by cases z) (s _ _ h)⟩)
  · exact .inr h
theorem ok_law {f PT : Addr} {fd : FuncData} (F : Fun K "law" "law" s_law f fd) (T : Txt mg) (c_pot : Cal P w K mg base 1 "_law_pot_of" P__law_pot_of (spPotOf K))
    (c_right : CalG P w K mg base 7 "_law_right" P__law_right (spRightT PT 10)) : FnG P w K mg base CX0 8 f fd P_law (spLaw K PT) := by
  obtain ⟨f_pot, fd_pot, G__law_pot_of, b__law_pot_of, g__law_pot_of, k__law_pot_of⟩ := c_pot
  obtain ⟨f_right, fd_right, G__law_right, b__law_right, g__law_right, k__law_right⟩ := c_right
  refine Fun_okG F sc_law (fun vs H Q E h => ?_) (fun cdv A outer s H vs Q E calm hr h => ?_)
  · obtain ⟨a, ns, rfl, _⟩ := h
    rfl
  · obtain ⟨a, ns, rfl, hP, hS, few, k⟩ := h
    have tb0 : LamX.Tabs [(PT, qLam)] H := fun q hq => by
      rw [List.mem_singleton.mp hq]
      exact LamX.TabS.nil hP
    refine ⟨_, (pss_cons (ps_for PassesOwn.never rfl (pi_range1 rfl T.n_range (pa_cons (pe_callB (call_max2 rfl) (by rfl) T.n_max (by decide +kernel) (pa_cons pe_int (pa_cons (pe_callB (call_min2 rfl) (by rfl) T.n_min (by decide +kernel) (pa_cons pe_int (pa_cons (pe_callB call_len_seq (by rfl) T.n_len (by decide +kernel) (pa_cons (pv 0) pa_nil)) pa_nil))) pa_nil))) pa_nil)) (pg_name (i := 1) sc_law.nd rfl (Or.inl rfl)) (pss_cons (ps_set (i := 2) sc_law.nd rfl (Or.inr rfl) (pe_call G__law_pot_of (hr.mono (by decide)) rfl g__law_pot_of k__law_pot_of b__law_pot_of .nil pass0 (pa_cons (pv 0) (pa_cons (pv 1) pa_nil))))
      (pss_one (ps_if (pt_not (pt_val (pe_callB (cr_all rfl) (by rfl) T.n_all (by decide +kernel) (pa_cons (pe_lc (own := [("_law_turn", 3)]) (g := gName 3) (tt := tYes) rfl sc_law.nd (pi_range1 rfl T.n_range (pa_cons pe_int pa_nil)) (blkOk_by (N := N_law) (sc := defScope s_law) (by decide +kernel)) (fun _ _ _ _ _ => (pg_name (i := 3) sc_law.nd rfl (Or.inl rfl))) (fun _ _ _ _ _ => pts_nil) (fun _ _ _ _ _ => (pe_callG calm G__law_right (hr.mono (by decide)) rfl g__law_right k__law_right b__law_right pass0 (pa_cons (pv 2) pa_nil)))) pa_nil)))) (pss_one (ps_ret pe_bl)) pss_nil))))
      (pss_one (ps_ret pe_bl))), ?_⟩
    fail "z run"
    with_reducible refine rd_for ?_
    with_reducible refine rd_rng1 ?_
    fail "z run"
    refine rd_lenLs hS ?_
    fail "z run"
    refine ⟨by split <;> (try split) <;> omega, by split <;> (try split) <;> omega, for_range (lo := 0) (fun i σ H' => ∃ v1 v2 v3, σ = [some (.ref a), v1, v2, v3] ∧ SqL K H' a (ns.map V.int) ∧ LamX.Tabs [(PT, qLam)] H') ⟨none, none, none, rfl, hS, tb0⟩ ?_ ?_⟩
    · rintro i σ H' hi ⟨v1, v2, v3, rfl, hS', tb1⟩
      have i2 : i ≤ 2 := by
        split at hi <;> (try split at hi) <;> omega
      fail "z run"
      refine ⟨a, ns, _, rfl, hS', by omega, by omega, by omega, fun p H1 np S1 P1 => ?_⟩
      fail "z run"
      unfold tLc
      with_reducible refine rd_rng1 ?_
      fail "z run"
      refine ⟨by decide, by decide, fun D hD => lc_range (lo := 0) (n := 10) (fun j H2 => KpT p H1 H2 ∧ LamX.Tabs [(PT, qLam)] H2 ∧ Pot H2 p (10 * (10 - j)) ∧ H2 D = some (.lst (List.replicate j (V.bl true)))) ?_ ?_ ?_⟩
      · exact ⟨.ofS (same_new hD), (tb1.ext S1).ext (same_new hD), (P1.new hD).le (by decide), upd_same⟩
      · rintro j H2 hj ⟨K2, T2, P2, hL⟩
        have nDp : D ≠ p := fun e => by
          obtain ⟨x, y, z, ep, _⟩ := P1
          rw [e, ep] at hD
          cases hD
        have e20 : 10 * (10 - j) = (10 * (10 - (j + 1))) + 10 := by omega
        rw [e20] at P2
        fail "z run"
        refine ⟨rfl, ?_⟩
        unfold tYes
        refine iteT ?_
        fail "z run"
        refine ⟨p, _, rfl, P2, T2, fun H4 K4 P4 T4 => ?_⟩
        have hL4 := K4 _ _ nDp (fun _ z => by cases z) hL
        refine ⟨_, hL4, Nat.lt_of_le_of_lt (by rw [List.length_replicate]; exact Nat.le_of_lt hj) (small1000 (by decide)), fun b o nb nt e => ?_, tabs_upd T4 hL4, ?_, ?_⟩
        · rw [upd_ne (ne_of_none e hD)]
          exact K4 _ _ nb nt (K2 _ _ nb nt e)
        · obtain ⟨x, y, z, ep, r⟩ := P4.le (m := 10 * (10 - (j + 1))) (by omega)
          exact ⟨x, y, z, (upd_ne nDp.symm).trans ep, r⟩
        · rw [rep_snoc]
          exact upd_same
      · rintro H2 ⟨K2, T2, P2, hL⟩
        fail "z run"
        refine ⟨D, List.replicate 10 true, rfl, SqL.of (by rw [List.map_replicate]; exact hL), ?_⟩
        rw [all_rep]
        fail "z run"
        refine iteF ?_
        fail "z run"
        exact ⟨_, _, _, rfl, sql_kpT hS' np S1 K2, T2⟩
    · rintro σ H' ⟨v1, v2, v3, rfl, hS', tb1⟩
      fail "z run"
      exact k H'
end
theorem all_mk {l : PySem.W.OpenLaw} {w : World} {K : PySem.W.Frag} {h : Heap} {mg : Str → Option Value} {fa : Addr}
    {C : Addr}
    {CW : Addr}
    {C_BadSpan : Addr} {nmBadSpan qBadSpan : Str} {NBadSpan : Addr} {bsBadSpan : List Value} {snBadSpan : List Str} {subBadSpan : List Value} {abBadSpan : Bool} {colBadSpan : Option Bool} {ddBadSpan : Option Addr} {m0BadSpan m1BadSpan m2BadSpan m3BadSpan m5BadSpan : Option Value}
    {fBadSpan___init__ : Addr} {odBadSpan___init__ anBadSpan___init__ : Option Addr} {slBadSpan___init__ : Array (Option Value)} {ocBadSpan___init__ kVBadSpan___init__ dcBadSpan___init__ pmBadSpan___init__ cdBadSpan___init__ ctBadSpan___init__ : Value}
    {fis_integer : Addr} {odis_integer anis_integer : Option Addr} {slis_integer : Array (Option Value)} {ocis_integer kVis_integer dcis_integer pmis_integer cdis_integer ctis_integer : Value}
    {fKind___init__ : Addr} {odKind___init__ anKind___init__ : Option Addr} {slKind___init__ : Array (Option Value)} {ocKind___init__ kVKind___init__ dcKind___init__ pmKind___init__ cdKind___init__ ctKind___init__ : Value}
    {fKind_cut : Addr} {odKind_cut anKind_cut : Option Addr} {slKind_cut : Array (Option Value)} {ocKind_cut kVKind_cut dcKind_cut pmKind_cut cdKind_cut ctKind_cut : Value}
    {fgreater : Addr} {odgreater angreater : Option Addr} {slgreater : Array (Option Value)} {ocgreater kVgreater dcgreater pmgreater cdgreater ctgreater : Value}
    {fis_span : Addr} {odis_span anis_span : Option Addr} {slis_span : Array (Option Value)} {ocis_span kVis_span dcis_span pmis_span cdis_span ctis_span : Value}
    {f_check_spans : Addr} {od_check_spans an_check_spans : Option Addr} {sl_check_spans : Array (Option Value)} {oc_check_spans kV_check_spans dc_check_spans pm_check_spans cd_check_spans ct_check_spans : Value}
    {f_next_like : Addr} {od_next_like an_next_like : Option Addr} {sl_next_like : Array (Option Value)} {oc_next_like kV_next_like dc_next_like pm_next_like cd_next_like ct_next_like : Value}
    {f_least : Addr} {od_least an_least : Option Addr} {sl_least : Array (Option Value)} {oc_least kV_least dc_least pm_least cd_least ct_least : Value}
    {f_least_turned : Addr} {od_least_turned an_least_turned : Option Addr} {sl_least_turned : Array (Option Value)} {oc_least_turned kV_least_turned dc_least_turned pm_least_turned cd_least_turned ct_least_turned : Value}
    {f_least_against : Addr} {od_least_against an_least_against : Option Addr} {sl_least_against : Array (Option Value)} {oc_least_against kV_least_against dc_least_against pm_least_against cd_least_against ct_least_against : Value}
    {fordered : Addr} {odordered anordered : Option Addr} {slordered : Array (Option Value)} {ocordered kVordered dcordered pmordered cdordered ctordered : Value}
    {falike : Addr} {odalike analike : Option Addr} {slalike : Array (Option Value)} {ocalike kValike dcalike pmalike cdalike ctalike : Value}
    {f_law_pot_of : Addr} {od_law_pot_of an_law_pot_of : Option Addr} {sl_law_pot_of : Array (Option Value)} {oc_law_pot_of kV_law_pot_of dc_law_pot_of pm_law_pot_of cd_law_pot_of ct_law_pot_of : Value}
    {f_law_take : Addr} {od_law_take an_law_take : Option Addr} {sl_law_take : Array (Option Value)} {oc_law_take kV_law_take dc_law_take pm_law_take cd_law_take ct_law_take : Value}
    {f_law_of : Addr} {od_law_of an_law_of : Option Addr} {sl_law_of : Array (Option Value)} {oc_law_of kV_law_of dc_law_of pm_law_of cd_law_of ct_law_of : Value}
    {f_law_value : Addr} {od_law_value an_law_value : Option Addr} {sl_law_value : Array (Option Value)} {oc_law_value kV_law_value dc_law_value pm_law_value cd_law_value ct_law_value : Value}
    {f_law_heard : Addr} {od_law_heard an_law_heard : Option Addr} {sl_law_heard : Array (Option Value)} {oc_law_heard kV_law_heard dc_law_heard pm_law_heard cd_law_heard ct_law_heard : Value}
    {f_law_right : Addr} {od_law_right an_law_right : Option Addr} {sl_law_right : Array (Option Value)} {oc_law_right kV_law_right dc_law_right pm_law_right ct_law_right : Value}
    {flaw : Addr} {odlaw anlaw : Option Addr} {sllaw : Array (Option Value)} {oclaw kVlaw dclaw pmlaw cdlaw ctlaw : Value}
    {cR PT : Addr} {ocT : Value} {odT : Option Addr} {vsT : Array Value} {slT : Array (Option Value)}
    (X : K.In h) (G : h.Ns mainGlobals mg) (hfa : mg "law" = some (.ref fa))
    (haC : PySem.W.nsIn K mainGlobals "Kind" = some (some (.ref C)))
    (hpg : PySem.W.plainGet K C Str.empty = true)
    (hhd : PySem.W.hasDictIn K C = true)
    (hpo : PySem.W.plainOver K C = true)
    (hsa : PySem.W.findIn K (.ref C) "__setattr__" = some (some (.builtin "object.__setattr__")))
    (hmk : PySem.W.makesIn K C = true)
    (hkc : PySem.W.keepIn K (.ref C) = true)
    (hnlow : PySem.W.findIn K (.ref C) "low" = some none)
    (hnhigh : PySem.W.findIn K (.ref C) "high" = some none)
    (hnsize : PySem.W.findIn K (.ref C) "size" = some none)
    (heStr : PySem.W.nsIn K mainGlobals "str" = some none)
    (heW0 : PySem.W.nsIn K mainGlobals "WidthError" = some (some (.ref CW)))
    (heW1 : PySem.W.subIn K (.ref CW) (.type "BaseException") = some true)
    (heW2 : PySem.W.hasDictIn K CW = true)
    (heW3 : PySem.W.typeIn K (.ref CW) = some (.type "type"))
    (heW4 : PySem.W.specialIn K (.builtin "object.__class__") "__get__" = some (some (.builtin "getset_descriptor.__get__")))
    (heW5 : PySem.W.takesIn K (.builtin "object.__class__") = some true)
    (heW6 : PySem.W.nsIn K mainGlobals "ValueError" = some none)
    (he0BadSpan : PySem.W.nsIn K mainGlobals "BadSpan" = some (some (.ref C_BadSpan)))
    (he1BadSpan : K.lookup C_BadSpan = some (excClassObj nmBadSpan qBadSpan C_BadSpan NBadSpan bsBadSpan [.ref CW, .type "ValueError", .type "Exception", .type "BaseException", .type "object"] true snBadSpan subBadSpan abBadSpan colBadSpan ddBadSpan m0BadSpan m1BadSpan m2BadSpan m3BadSpan m5BadSpan "ValueError.__new__"))
    (he2BadSpan : PySem.W.findIn K (.ref C_BadSpan) "__setattr__" = some (some (.builtin "object.__setattr__")))
    (he3BadSpan : PySem.W.findIn K (.ref C_BadSpan) "__getattribute__" = some (some (.builtin "BaseException.__getattribute__")))
    (he4BadSpan : PySem.W.findIn K (.ref C_BadSpan) "__getattr__" = some none)
    (he6BadSpan : PySem.W.keepIn K (.ref C_BadSpan) = true)
    (he7BadSpan : PySem.W.subIn K (.ref C_BadSpan) (.type "BaseException") = some true)
    (he8BadSpan : PySem.W.typeIn K (.ref C_BadSpan) = some (.type "type"))
    (he9BadSpan : PySem.W.hasDictIn K C_BadSpan = true)
    (heaBadSpan : PySem.W.findIn K (.ref C_BadSpan) "__class__" = some (some (.builtin "object.__class__")))
    (hebBadSpan : PySem.W.mroIn K C_BadSpan (.type "object") = some true)
    (hedBadSpan : PySem.W.subIn K (.ref C_BadSpan) (.type "ValueError") = some true)
    (heeBadSpan : PySem.W.subIn K (.ref C_BadSpan) (.ref CW) = some true)
    (hevBadSpanvalue : PySem.W.findIn K (.ref C_BadSpan) "value" = some none)
    (haBadSpan___init__ : PySem.W.findIn K (.ref C_BadSpan) "__init__" = some (some (.ref fBadSpan___init__)))
    (hiBadSpan___init__ : PySem.W.isFn K (.ref fBadSpan___init__) = true)
    (hlBadSpan___init__ : K.lookup fBadSpan___init__ = some ⟨ocBadSpan___init__, odBadSpan___init__, .func (PySem.W.fnOf "__init__" "BadSpan.__init__" (defArgs s_BadSpan___init__) (defBody s_BadSpan___init__) (defScope s_BadSpan___init__) .none kVBadSpan___init__ dcBadSpan___init__ pmBadSpan___init__ anBadSpan___init__ cdBadSpan___init__ ctBadSpan___init__), slBadSpan___init__⟩)
    (hcBadSpan___init__ : PySem.W.codeIn K cdBadSpan___init__ "BadSpan.__init__" = true)
    (hkBadSpan___init__ : PySem.W.keepIn K (.ref fBadSpan___init__) = true)
    (hais_integer : PySem.W.nsIn K mainGlobals "is_integer" = some (some (.ref fis_integer)))
    (hlis_integer : K.lookup fis_integer = some ⟨ocis_integer, odis_integer, .func (PySem.W.fnOf "is_integer" "is_integer" (defArgs s_is_integer) (defBody s_is_integer) (defScope s_is_integer) .none kVis_integer dcis_integer pmis_integer anis_integer cdis_integer ctis_integer), slis_integer⟩)
    (hcis_integer : PySem.W.codeIn K cdis_integer "is_integer" = true)
    (hkis_integer : PySem.W.keepIn K (.ref fis_integer) = true)
    (haKind___init__ : PySem.W.findIn K (.ref C) "__init__" = some (some (.ref fKind___init__)))
    (hiKind___init__ : PySem.W.isFn K (.ref fKind___init__) = true)
    (hlKind___init__ : K.lookup fKind___init__ = some ⟨ocKind___init__, odKind___init__, .func (PySem.W.fnOf "__init__" "Kind.__init__" (defArgs s_Kind___init__) (defBody s_Kind___init__) (defScope s_Kind___init__) .none kVKind___init__ dcKind___init__ pmKind___init__ anKind___init__ cdKind___init__ ctKind___init__), slKind___init__⟩)
    (hcKind___init__ : PySem.W.codeIn K cdKind___init__ "Kind.__init__" = true)
    (hkKind___init__ : PySem.W.keepIn K (.ref fKind___init__) = true)
    (haKind_cut : PySem.W.findIn K (.ref C) "cut" = some (some (.ref fKind_cut)))
    (hiKind_cut : PySem.W.isFn K (.ref fKind_cut) = true)
    (hlKind_cut : K.lookup fKind_cut = some ⟨ocKind_cut, odKind_cut, .func (PySem.W.fnOf "cut" "Kind.cut" (defArgs s_Kind_cut) (defBody s_Kind_cut) (defScope s_Kind_cut) .none kVKind_cut dcKind_cut pmKind_cut anKind_cut cdKind_cut ctKind_cut), slKind_cut⟩)
    (hcKind_cut : PySem.W.codeIn K cdKind_cut "Kind.cut" = true)
    (hkKind_cut : PySem.W.keepIn K (.ref fKind_cut) = true)
    (hagreater : PySem.W.nsIn K mainGlobals "greater" = some (some (.ref fgreater)))
    (hlgreater : K.lookup fgreater = some ⟨ocgreater, odgreater, .func (PySem.W.fnOf "greater" "greater" (defArgs s_greater) (defBody s_greater) (defScope s_greater) .none kVgreater dcgreater pmgreater angreater cdgreater ctgreater), slgreater⟩)
    (hcgreater : PySem.W.codeIn K cdgreater "greater" = true)
    (hkgreater : PySem.W.keepIn K (.ref fgreater) = true)
    (hais_span : PySem.W.nsIn K mainGlobals "is_span" = some (some (.ref fis_span)))
    (hlis_span : K.lookup fis_span = some ⟨ocis_span, odis_span, .func (PySem.W.fnOf "is_span" "is_span" (defArgs s_is_span) (defBody s_is_span) (defScope s_is_span) .none kVis_span dcis_span pmis_span anis_span cdis_span ctis_span), slis_span⟩)
    (hcis_span : PySem.W.codeIn K cdis_span "is_span" = true)
    (hkis_span : PySem.W.keepIn K (.ref fis_span) = true)
    (ha_check_spans : PySem.W.nsIn K mainGlobals "_check_spans" = some (some (.ref f_check_spans)))
    (hl_check_spans : K.lookup f_check_spans = some ⟨oc_check_spans, od_check_spans, .func (PySem.W.fnOf "_check_spans" "_check_spans" (defArgs s__check_spans) (defBody s__check_spans) (defScope s__check_spans) .none kV_check_spans dc_check_spans pm_check_spans an_check_spans cd_check_spans ct_check_spans), sl_check_spans⟩)
    (hc_check_spans : PySem.W.codeIn K cd_check_spans "_check_spans" = true)
    (hk_check_spans : PySem.W.keepIn K (.ref f_check_spans) = true)
    (ha_next_like : PySem.W.nsIn K mainGlobals "_next_like" = some (some (.ref f_next_like)))
    (hl_next_like : K.lookup f_next_like = some ⟨oc_next_like, od_next_like, .func (PySem.W.fnOf "_next_like" "_next_like" (defArgs s__next_like) (defBody s__next_like) (defScope s__next_like) .none kV_next_like dc_next_like pm_next_like an_next_like cd_next_like ct_next_like), sl_next_like⟩)
    (hc_next_like : PySem.W.codeIn K cd_next_like "_next_like" = true)
    (hk_next_like : PySem.W.keepIn K (.ref f_next_like) = true)
    (ha_least : PySem.W.nsIn K mainGlobals "_least" = some (some (.ref f_least)))
    (hl_least : K.lookup f_least = some ⟨oc_least, od_least, .func (PySem.W.fnOf "_least" "_least" (defArgs s__least) (defBody s__least) (defScope s__least) .none kV_least dc_least pm_least an_least cd_least ct_least), sl_least⟩)
    (hc_least : PySem.W.codeIn K cd_least "_least" = true)
    (hk_least : PySem.W.keepIn K (.ref f_least) = true)
    (ha_least_turned : PySem.W.nsIn K mainGlobals "_least_turned" = some (some (.ref f_least_turned)))
    (hl_least_turned : K.lookup f_least_turned = some ⟨oc_least_turned, od_least_turned, .func (PySem.W.fnOf "_least_turned" "_least_turned" (defArgs s__least_turned) (defBody s__least_turned) (defScope s__least_turned) .none kV_least_turned dc_least_turned pm_least_turned an_least_turned cd_least_turned ct_least_turned), sl_least_turned⟩)
    (hc_least_turned : PySem.W.codeIn K cd_least_turned "_least_turned" = true)
    (hk_least_turned : PySem.W.keepIn K (.ref f_least_turned) = true)
    (ha_least_against : PySem.W.nsIn K mainGlobals "_least_against" = some (some (.ref f_least_against)))
    (hl_least_against : K.lookup f_least_against = some ⟨oc_least_against, od_least_against, .func (PySem.W.fnOf "_least_against" "_least_against" (defArgs s__least_against) (defBody s__least_against) (defScope s__least_against) .none kV_least_against dc_least_against pm_least_against an_least_against cd_least_against ct_least_against), sl_least_against⟩)
    (hc_least_against : PySem.W.codeIn K cd_least_against "_least_against" = true)
    (hk_least_against : PySem.W.keepIn K (.ref f_least_against) = true)
    (haordered : PySem.W.nsIn K mainGlobals "ordered" = some (some (.ref fordered)))
    (hlordered : K.lookup fordered = some ⟨ocordered, odordered, .func (PySem.W.fnOf "ordered" "ordered" (defArgs s_ordered) (defBody s_ordered) (defScope s_ordered) .none kVordered dcordered pmordered anordered cdordered ctordered), slordered⟩)
    (hcordered : PySem.W.codeIn K cdordered "ordered" = true)
    (hkordered : PySem.W.keepIn K (.ref fordered) = true)
    (haalike : PySem.W.nsIn K mainGlobals "alike" = some (some (.ref falike)))
    (hlalike : K.lookup falike = some ⟨ocalike, odalike, .func (PySem.W.fnOf "alike" "alike" (defArgs s_alike) (defBody s_alike) (defScope s_alike) .none kValike dcalike pmalike analike cdalike ctalike), slalike⟩)
    (hcalike : PySem.W.codeIn K cdalike "alike" = true)
    (hkalike : PySem.W.keepIn K (.ref falike) = true)
    (ha_law_pot_of : PySem.W.nsIn K mainGlobals "_law_pot_of" = some (some (.ref f_law_pot_of)))
    (hl_law_pot_of : K.lookup f_law_pot_of = some ⟨oc_law_pot_of, od_law_pot_of, .func (PySem.W.fnOf "_law_pot_of" "_law_pot_of" (defArgs s__law_pot_of) (defBody s__law_pot_of) (defScope s__law_pot_of) .none kV_law_pot_of dc_law_pot_of pm_law_pot_of an_law_pot_of cd_law_pot_of ct_law_pot_of), sl_law_pot_of⟩)
    (hc_law_pot_of : PySem.W.codeIn K cd_law_pot_of "_law_pot_of" = true)
    (hk_law_pot_of : PySem.W.keepIn K (.ref f_law_pot_of) = true)
    (ha_law_take : PySem.W.nsIn K mainGlobals "_law_take" = some (some (.ref f_law_take)))
    (hl_law_take : K.lookup f_law_take = some ⟨oc_law_take, od_law_take, .func (PySem.W.fnOf "_law_take" "_law_take" (defArgs s__law_take) (defBody s__law_take) (defScope s__law_take) .none kV_law_take dc_law_take pm_law_take an_law_take cd_law_take ct_law_take), sl_law_take⟩)
    (hc_law_take : PySem.W.codeIn K cd_law_take "_law_take" = true)
    (hk_law_take : PySem.W.keepIn K (.ref f_law_take) = true)
    (ha_law_of : PySem.W.nsIn K mainGlobals "_law_of" = some (some (.ref f_law_of)))
    (hl_law_of : K.lookup f_law_of = some ⟨oc_law_of, od_law_of, .func (PySem.W.fnOf "_law_of" "_law_of" (defArgs s__law_of) (defBody s__law_of) (defScope s__law_of) .none kV_law_of dc_law_of pm_law_of an_law_of cd_law_of ct_law_of), sl_law_of⟩)
    (hc_law_of : PySem.W.codeIn K cd_law_of "_law_of" = true)
    (hk_law_of : PySem.W.keepIn K (.ref f_law_of) = true)
    (ha_law_value : PySem.W.nsIn K mainGlobals "_law_value" = some (some (.ref f_law_value)))
    (hl_law_value : K.lookup f_law_value = some ⟨oc_law_value, od_law_value, .func (PySem.W.fnOf "_law_value" "_law_value" (defArgs s__law_value) (defBody s__law_value) (defScope s__law_value) .none kV_law_value dc_law_value pm_law_value an_law_value cd_law_value ct_law_value), sl_law_value⟩)
    (hc_law_value : PySem.W.codeIn K cd_law_value "_law_value" = true)
    (hk_law_value : PySem.W.keepIn K (.ref f_law_value) = true)
    (ha_law_heard : PySem.W.nsIn K mainGlobals "_law_heard" = some (some (.ref f_law_heard)))
    (hl_law_heard : K.lookup f_law_heard = some ⟨oc_law_heard, od_law_heard, .func (PySem.W.fnOf "_law_heard" "_law_heard" (defArgs s__law_heard) (defBody s__law_heard) (defScope s__law_heard) .none kV_law_heard dc_law_heard pm_law_heard an_law_heard cd_law_heard ct_law_heard), sl_law_heard⟩)
    (hc_law_heard : PySem.W.codeIn K cd_law_heard "_law_heard" = true)
    (hk_law_heard : PySem.W.keepIn K (.ref f_law_heard) = true)
    (ha_law_right : PySem.W.nsIn K mainGlobals "_law_right" = some (some (.ref f_law_right)))
    (hl_law_right : K.lookup f_law_right = some ⟨oc_law_right, od_law_right, .func (PySem.W.fnOf "_law_right" "_law_right" (defArgs s__law_right) (defBody s__law_right) (defScope s__law_right) .none kV_law_right dc_law_right pm_law_right an_law_right (.ref cR) ct_law_right), sl_law_right⟩)
    (hc_law_right : PySem.W.codeIn K (.ref cR) "_law_right" = true)
    (hk_law_right : PySem.W.keepIn K (.ref f_law_right) = true)
    (halaw : PySem.W.nsIn K mainGlobals "law" = some (some (.ref flaw)))
    (hllaw : K.lookup flaw = some ⟨oclaw, odlaw, .func (PySem.W.fnOf "law" "law" (defArgs s_law) (defBody s_law) (defScope s_law) .none kVlaw dclaw pmlaw anlaw cdlaw ctlaw), sllaw⟩)
    (hclaw : PySem.W.codeIn K cdlaw "law" = true)
    (hklaw : PySem.W.keepIn K (.ref flaw) = true)
    (hefBadSpan : PySem.W.typeIn K (.ref fBadSpan___init__) = some (.type "function"))
    (heT0 : K.lookup cR = some ⟨ocT, odT, .fields vsT, slT⟩)
    (heT1 : vsT[11]? = some (.ref PT))
    (hzint : PySem.W.nsIn K mainGlobals "int" = some none)
    (hzlen : PySem.W.nsIn K mainGlobals "len" = some none)
    (hzabs : PySem.W.nsIn K mainGlobals "abs" = some none)
    (hzbool : PySem.W.nsIn K mainGlobals "bool" = some none)
    (hztuple : PySem.W.nsIn K mainGlobals "tuple" = some none)
    (hzisinstance : PySem.W.nsIn K mainGlobals "isinstance" = some none)
    (hzrange : PySem.W.nsIn K mainGlobals "range" = some none)
    (hzmax : PySem.W.nsIn K mainGlobals "max" = some none)
    (hzmin : PySem.W.nsIn K mainGlobals "min" = some none)
    (hzall : PySem.W.nsIn K mainGlobals "all" = some none)
    (hzrepr : PySem.W.nsIn K mainGlobals "repr" = some none) :
    ∃ fd : FuncData, (∀ (s : Shared) (v : Value), BindsTo s fd ⟨[v], []⟩ [("_law_script", v)]) ∧ ∀ base : Heap, K.In base → base.Ns mainGlobals mg → LamX.TabB base mg cR PT → FnG l.prog w K mg base CX0 8 fa fd P_law (spLaw K PT) := by
  have e := hfa.symm.trans (PySem.W.mg_of X G halaw)
  cases e
  have T : Txt mg := ⟨PySem.W.mg_none_of X G hzint, PySem.W.mg_none_of X G hzlen, PySem.W.mg_none_of X G hzabs, PySem.W.mg_none_of X G hzbool, PySem.W.mg_none_of X G hztuple, PySem.W.mg_none_of X G hzisinstance, PySem.W.mg_none_of X G hzrange, PySem.W.mg_none_of X G hzmax, PySem.W.mg_none_of X G hzmin, PySem.W.mg_none_of X G hzall, PySem.W.mg_none_of X G hzrepr⟩
  have KT : KindT K C := ⟨⟨hpg, hhd, hpo, hsa⟩, hnlow, hnhigh, hnsize⟩
  have ET_BadSpan : ErrT K mg CW C_BadSpan "BadSpan" := { ox := ⟨⟨nmBadSpan, qBadSpan, NBadSpan, bsBadSpan, _, snBadSpan, subBadSpan, abBadSpan, colBadSpan, ddBadSpan, m0BadSpan, m1BadSpan, m2BadSpan, m3BadSpan, m5BadSpan, he1BadSpan, rfl⟩, he2BadSpan, he7BadSpan, he8BadSpan, he6BadSpan⟩, ek := ⟨by unfold PySem.W.clsIn; rw [he1BadSpan]; rfl, he3BadSpan, he4BadSpan, he7BadSpan, heaBadSpan, heW4, heW5, hebBadSpan, he9BadSpan⟩, nv := hevBadSpanvalue, me := PySem.W.exm_ref heW1 heW2 heW3 heeBadSpan, kc := if_pos (beq_self_eq_true _), kv := kit_sub (by decide +kernel) hedBadSpan, g := PySem.W.mg_of X G he0BadSpan }
  have n_str := PySem.W.mg_none_of X G heStr
  have n_ve := PySem.W.mg_none_of X G heW6
  have g_WidthError := PySem.W.mg_of X G heW0
  have FBadSpan___init__ := fun_mk (st := s_BadSpan___init__) hlBadSpan___init__ hcBadSpan___init__ hkBadSpan___init__
  have bBadSpan___init__ := FBadSpan___init__.binds (ps := P_BadSpan___init__) fun _ _ _ _ _ _ us hl => match us, hl with | [_, _], _ => rfl
  have Fis_integer := fun_mk (st := s_is_integer) hlis_integer hcis_integer hkis_integer
  have bis_integer := Fis_integer.binds (ps := P_is_integer) fun _ _ _ _ _ _ us hl => match us, hl with | [_], _ => rfl
  have FKind___init__ := fun_mk (st := s_Kind___init__) hlKind___init__ hcKind___init__ hkKind___init__
  have bKind___init__ := FKind___init__.binds (ps := P_Kind___init__) fun _ _ _ _ _ _ us hl => match us, hl with | [_, _, _], _ => rfl
  have FKind_cut := fun_mk (st := s_Kind_cut) hlKind_cut hcKind_cut hkKind_cut
  have bKind_cut := FKind_cut.binds (ps := P_Kind_cut) fun _ _ _ _ _ _ us hl => match us, hl with | [_, _], _ => rfl
  have Fgreater := fun_mk (st := s_greater) hlgreater hcgreater hkgreater
  have bgreater := Fgreater.binds (ps := P_greater) fun _ _ _ _ _ _ us hl => match us, hl with | [_, _], _ => rfl
  have Fis_span := fun_mk (st := s_is_span) hlis_span hcis_span hkis_span
  have bis_span := Fis_span.binds (ps := P_is_span) fun _ _ _ _ _ _ us hl => match us, hl with | [_], _ => rfl
  have F_check_spans := fun_mk (st := s__check_spans) hl_check_spans hc_check_spans hk_check_spans
  have b_check_spans := F_check_spans.binds (ps := P__check_spans) fun _ _ _ _ _ _ us hl => match us, hl with | [_, _], _ => rfl
  have F_next_like := fun_mk (st := s__next_like) hl_next_like hc_next_like hk_next_like
  have b_next_like := F_next_like.binds (ps := P__next_like) fun _ _ _ _ _ _ us hl => match us, hl with | [_, _, _], _ => rfl
  have F_least := fun_mk (st := s__least) hl_least hc_least hk_least
  have b_least := F_least.binds (ps := P__least) fun _ _ _ _ _ _ us hl => match us, hl with | [_, _, _], _ => rfl
  have F_least_turned := fun_mk (st := s__least_turned) hl_least_turned hc_least_turned hk_least_turned
  have b_least_turned := F_least_turned.binds (ps := P__least_turned) fun _ _ _ _ _ _ us hl => match us, hl with | [_, _, _], _ => rfl
  have F_least_against := fun_mk (st := s__least_against) hl_least_against hc_least_against hk_least_against
  have b_least_against := F_least_against.binds (ps := P__least_against) fun _ _ _ _ _ _ us hl => match us, hl with | [_, _, _], _ => rfl
  have Fordered := fun_mk (st := s_ordered) hlordered hcordered hkordered
  have bordered := Fordered.binds (ps := P_ordered) fun _ _ _ _ _ _ us hl => match us, hl with | [_, _, _], _ => rfl
  have Falike := fun_mk (st := s_alike) hlalike hcalike hkalike
  have balike := Falike.binds (ps := P_alike) fun _ _ _ _ _ _ us hl => match us, hl with | [_, _, _], _ => rfl
  have F_law_pot_of := fun_mk (st := s__law_pot_of) hl_law_pot_of hc_law_pot_of hk_law_pot_of
  have b_law_pot_of := F_law_pot_of.binds (ps := P__law_pot_of) fun _ _ _ _ _ _ us hl => match us, hl with | [_, _], _ => rfl
  have F_law_take := fun_mk (st := s__law_take) hl_law_take hc_law_take hk_law_take
  have b_law_take := F_law_take.binds (ps := P__law_take) fun _ _ _ _ _ _ us hl => match us, hl with | [_, _], _ => rfl
  have F_law_of := fun_mk (st := s__law_of) hl_law_of hc_law_of hk_law_of
  have b_law_of := F_law_of.binds (ps := P__law_of) fun _ _ _ _ _ _ us hl => match us, hl with | [_, _], _ => rfl
  have F_law_value := fun_mk (st := s__law_value) hl_law_value hc_law_value hk_law_value
  have b_law_value := F_law_value.binds (ps := P__law_value) fun _ _ _ _ _ _ us hl => match us, hl with | [_], _ => rfl
  have F_law_heard := fun_mk (st := s__law_heard) hl_law_heard hc_law_heard hk_law_heard
  have b_law_heard := F_law_heard.binds (ps := P__law_heard) fun _ _ _ _ _ _ us hl => match us, hl with | [_], _ => rfl
  have F_law_right := fun_mk (st := s__law_right) hl_law_right hc_law_right hk_law_right
  have FC_law_right : FunC K "_law_right" "_law_right" s__law_right f_law_right _ (.ref cR) := ⟨oc_law_right, od_law_right, kV_law_right, dc_law_right, pm_law_right, an_law_right, ct_law_right, sl_law_right, rfl, hl_law_right, hc_law_right⟩
  have b_law_right := F_law_right.binds (ps := P__law_right) fun _ _ _ _ _ _ us hl => match us, hl with | [_], _ => rfl
  have Flaw := fun_mk (st := s_law) hllaw hclaw hklaw
  refine ⟨PySem.W.fnOf "law" "law" (defArgs s_law) (defBody s_law) (defScope s_law) .none kVlaw dclaw pmlaw anlaw cdlaw ctlaw, fun s v => .of_eq rfl, fun base _ _ TB => ?_⟩
  have cis_integer : Cal l.prog w K mg base 1 "is_integer" P_is_integer spIsInt := ⟨fis_integer, _, ok_is_integer Fis_integer T, bis_integer, PySem.W.mg_of X G hais_integer, hkis_integer⟩
  have cKind : CalK l.prog w K mg base C := ⟨fKind___init__, _, ⟨hmk, haKind___init__, hiKind___init__, hkc⟩, ok_Kind FKind___init__ KT cis_integer, bKind___init__, PySem.W.mg_of X G haC⟩
  have cEBadSpan : CalE l.prog w K mg base C_BadSpan P_BadSpan___init__ := ⟨fBadSpan___init__, _, haBadSpan___init__, hefBadSpan, ok_BadSpan FBadSpan___init__ ET_BadSpan, bBadSpan___init__⟩
  have ccut : CalM l.prog w K mg base C "cut" P_Kind_cut (spCutM C) := ⟨fKind_cut, _, ⟨haKind_cut, hiKind_cut, hkKind_cut⟩, ok_cutM FKind_cut KT cis_integer, bKind_cut⟩
  have cgreater : Cal l.prog w K mg base 1 "greater" P_greater spGreater := ⟨fgreater, _, ok_greater Fgreater, bgreater, PySem.W.mg_of X G hagreater, hkgreater⟩
  have cis_span : Cal l.prog w K mg base 2 "is_span" P_is_span spSV := ⟨fis_span, _, ok_is_span Fis_span T cis_integer, bis_span, PySem.W.mg_of X G hais_span, hkis_span⟩
  have c_check_spans : CalX l.prog w K mg base 3 "_check_spans" P__check_spans (spCheckX C_BadSpan) := ⟨f_check_spans, _, ok_check F_check_spans ET_BadSpan cis_span cEBadSpan, b_check_spans, PySem.W.mg_of X G ha_check_spans, hk_check_spans⟩
  have c_next_like : Cal l.prog w K mg base 1 "_next_like" P__next_like (spNext C) := ⟨f_next_like, _, ok_next F_next_like KT, b_next_like, PySem.W.mg_of X G ha_next_like, hk_next_like⟩
  have c_least : Cal l.prog w K mg base 1 "_least" P__least spLeast := ⟨f_least, _, ok_least F_least, b_least, PySem.W.mg_of X G ha_least, hk_least⟩
  have c_least_turned : Cal l.prog w K mg base 2 "_least_turned" P__least_turned (spTurned C) := ⟨f_least_turned, _, ok_turned F_least_turned KT c_next_like cgreater, b_least_turned, PySem.W.mg_of X G ha_least_turned, hk_least_turned⟩
  have c_least_against : Cal l.prog w K mg base 2 "_least_against" P__least_against (spAgainst C) := ⟨f_least_against, _, ok_against F_least_against KT c_next_like cgreater, b_least_against, PySem.W.mg_of X G ha_least_against, hk_least_against⟩
  have cordered : CalX l.prog w K mg base 4 "ordered" P_ordered (spWinX C C_BadSpan) := ⟨fordered, _, ok_orderedX Fordered KT c_check_spans c_least_turned c_least_against c_least ccut, bordered, PySem.W.mg_of X G haordered, hkordered⟩
  have calike : CalX l.prog w K mg base 4 "alike" P_alike (spWinX C C_BadSpan) := ⟨falike, _, ok_alikeX Falike KT c_check_spans c_next_like c_least, balike, PySem.W.mg_of X G haalike, hkalike⟩
  have c_law_take : Cal l.prog w K mg base 1 "_law_take" P__law_take spTake := ⟨f_law_take, _, ok_take F_law_take T, b_law_take, PySem.W.mg_of X G ha_law_take, hk_law_take⟩
  have c_law_of : Cal l.prog w K mg base 2 "_law_of" P__law_of spOf := ⟨f_law_of, _, ok_of F_law_of T c_law_take, b_law_of, PySem.W.mg_of X G ha_law_of, hk_law_of⟩
  have c_law_pot_of : Cal l.prog w K mg base 1 "_law_pot_of" P__law_pot_of (spPotOf K) := ⟨f_law_pot_of, _, ok_pot_of F_law_pot_of T, b_law_pot_of, PySem.W.mg_of X G ha_law_pot_of, hk_law_pot_of⟩
  have c_law_value : Cal l.prog w K mg base 3 "_law_value" P__law_value spVal := ⟨f_law_value, _, ok_value F_law_value T n_str c_law_take c_law_of, b_law_value, PySem.W.mg_of X G ha_law_value, hk_law_value⟩
  have c_law_right : CalG l.prog w K mg base 7 "_law_right" P__law_right (spRightT PT 10) := ⟨f_law_right, _, ok_right FC_law_right TB T n_ve g_WidthError ET_BadSpan c_law_take cKind c_law_value calike cordered (PySem.W.mg_of X G ha_law_heard) hk_law_heard hl_law_heard hc_law_heard b_law_heard, b_law_right, PySem.W.mg_of X G ha_law_right, hk_law_right⟩
  exact ok_law Flaw T c_law_pot_of c_law_right
end Zg

open PySem PySem.W PyProof.Rows in
set_option maxRecDepth 100000 in
set_option maxHeartbeats 0 in
theorem PySem.Challenge.cw_widerkeys_k08_what_is_no_span_holds : PySem.Challenge.rw_widerkeys_k08_what_is_no_span.Holds := by
  w_on; o_law; k_head; (case hw => w_witness2)
  k_fill
  refine' Zg.walkGT (l := PySem.Challenge.rw_widerkeys_k08_what_is_no_span) (sp := Zg.spLaw) (x := "_law_script") (y := "_law_right") (k := 8) rfl (by decide) rfl ⟨rfl, by decide, by decide⟩ (fun w h Y => PySem.W.km_in_of Y) ?rec ?inK ?off ?F (fun K P H a ns hl hP hS => ⟨a, ns, rfl, hP, hS, hl, fun _ => rfl⟩)
  case F =>
    intro w mg fa h KX G hmg
    refine' Zg.all_mk KX G hmg ?haC ?hpg ?hhd ?hpo ?hsa ?hmk ?hkc ?hnlow ?hnhigh ?hnsize ?heStr ?heW0 ?heW1 ?heW2 ?heW3 ?heW4 ?heW5 ?heW6 ?he0BadSpan ?he1BadSpan ?he2BadSpan ?he3BadSpan ?he4BadSpan ?he6BadSpan ?he7BadSpan ?he8BadSpan ?he9BadSpan ?heaBadSpan ?hebBadSpan ?hedBadSpan ?heeBadSpan ?hevBadSpanvalue ?haBadSpan___init__ ?hiBadSpan___init__ ?hlBadSpan___init__ ?hcBadSpan___init__ ?hkBadSpan___init__ ?hais_integer ?hlis_integer ?hcis_integer ?hkis_integer ?haKind___init__ ?hiKind___init__ ?hlKind___init__ ?hcKind___init__ ?hkKind___init__ ?haKind_cut ?hiKind_cut ?hlKind_cut ?hcKind_cut ?hkKind_cut ?hagreater ?hlgreater ?hcgreater ?hkgreater ?hais_span ?hlis_span ?hcis_span ?hkis_span ?ha_check_spans ?hl_check_spans ?hc_check_spans ?hk_check_spans ?ha_next_like ?hl_next_like ?hc_next_like ?hk_next_like ?ha_least ?hl_least ?hc_least ?hk_least ?ha_least_turned ?hl_least_turned ?hc_least_turned ?hk_least_turned ?ha_least_against ?hl_least_against ?hc_least_against ?hk_least_against ?haordered ?hlordered ?hcordered ?hkordered ?haalike ?hlalike ?hcalike ?hkalike ?ha_law_pot_of ?hl_law_pot_of ?hc_law_pot_of ?hk_law_pot_of ?ha_law_take ?hl_law_take ?hc_law_take ?hk_law_take ?ha_law_of ?hl_law_of ?hc_law_of ?hk_law_of ?ha_law_value ?hl_law_value ?hc_law_value ?hk_law_value ?ha_law_heard ?hl_law_heard ?hc_law_heard ?hk_law_heard ?ha_law_right ?hl_law_right ?hc_law_right ?hk_law_right ?halaw ?hllaw ?hclaw ?hklaw ?hefBadSpan ?heT0 ?heT1 ?hzint ?hzlen ?hzabs ?hzbool ?hztuple ?hzisinstance ?hzrange ?hzmax ?hzmin ?hzall ?hzrepr
    (case haC => k_is)
    (case hpg => k_is)
    (case hhd => k_is)
    (case hpo => k_is)
    (case hsa => k_is)
    (case hmk => k_is)
    (case hkc => k_is)
    (case hnlow => k_is)
    (case hnhigh => k_is)
    (case hnsize => k_is)
    (case heStr => k_is)
    (case heW0 => k_is)
    (case heW1 => k_is)
    (case heW2 => k_is)
    (case heW3 => k_is)
    (case heW4 => k_is)
    (case heW5 => k_is)
    (case heW6 => k_is)
    (case he0BadSpan => k_is)
    (case he1BadSpan => k_is)
    (case he2BadSpan => k_is)
    (case he3BadSpan => k_is)
    (case he4BadSpan => k_is)
    (case he6BadSpan => k_is)
    (case he7BadSpan => k_is)
    (case he8BadSpan => k_is)
    (case he9BadSpan => k_is)
    (case heaBadSpan => k_is)
    (case hebBadSpan => k_is)
    (case hedBadSpan => k_is)
    (case heeBadSpan => k_is)
    (case hevBadSpanvalue => k_is)
    (case haBadSpan___init__ => k_is)
    (case hiBadSpan___init__ => k_is)
    (case hlBadSpan___init__ => k_is)
    (case hcBadSpan___init__ => k_is)
    (case hkBadSpan___init__ => k_is)
    (case hais_integer => k_is)
    (case hlis_integer => k_is)
    (case hcis_integer => k_is)
    (case hkis_integer => k_is)
    (case haKind___init__ => k_is)
    (case hiKind___init__ => k_is)
    (case hlKind___init__ => k_is)
    (case hcKind___init__ => k_is)
    (case hkKind___init__ => k_is)
    (case haKind_cut => k_is)
    (case hiKind_cut => k_is)
    (case hlKind_cut => k_is)
    (case hcKind_cut => k_is)
    (case hkKind_cut => k_is)
    (case hagreater => k_is)
    (case hlgreater => k_is)
    (case hcgreater => k_is)
    (case hkgreater => k_is)
    (case hais_span => k_is)
    (case hlis_span => k_is)
    (case hcis_span => k_is)
    (case hkis_span => k_is)
    (case ha_check_spans => k_is)
    (case hl_check_spans => k_is)
    (case hc_check_spans => k_is)
    (case hk_check_spans => k_is)
    (case ha_next_like => k_is)
    (case hl_next_like => k_is)
    (case hc_next_like => k_is)
    (case hk_next_like => k_is)
    (case ha_least => k_is)
    (case hl_least => k_is)
    (case hc_least => k_is)
    (case hk_least => k_is)
    (case ha_least_turned => k_is)
    (case hl_least_turned => k_is)
    (case hc_least_turned => k_is)
    (case hk_least_turned => k_is)
    (case ha_least_against => k_is)
    (case hl_least_against => k_is)
    (case hc_least_against => k_is)
    (case hk_least_against => k_is)
    (case haordered => k_is)
    (case hlordered => k_is)
    (case hcordered => k_is)
    (case hkordered => k_is)
    (case haalike => k_is)
    (case hlalike => k_is)
    (case hcalike => k_is)
    (case hkalike => k_is)
    (case ha_law_pot_of => k_is)
    (case hl_law_pot_of => k_is)
    (case hc_law_pot_of => k_is)
    (case hk_law_pot_of => k_is)
    (case ha_law_take => k_is)
    (case hl_law_take => k_is)
    (case hc_law_take => k_is)
    (case hk_law_take => k_is)
    (case ha_law_of => k_is)
    (case hl_law_of => k_is)
    (case hc_law_of => k_is)
    (case hk_law_of => k_is)
    (case ha_law_value => k_is)
    (case hl_law_value => k_is)
    (case hc_law_value => k_is)
    (case hk_law_value => k_is)
    (case ha_law_heard => k_is)
    (case hl_law_heard => k_is)
    (case hc_law_heard => k_is)
    (case hk_law_heard => k_is)
    (case ha_law_right => k_is)
    (case hl_law_right => k_is)
    (case hc_law_right => k_is)
    (case hk_law_right => k_is)
    (case halaw => k_is)
    (case hllaw => k_is)
    (case hclaw => k_is)
    (case hklaw => k_is)
    (case hefBadSpan => k_is)
    (case heT0 => k_is)
    (case heT1 => rfl)
    (case hzint => k_is)
    (case hzlen => k_is)
    (case hzabs => k_is)
    (case hzbool => k_is)
    (case hztuple => k_is)
    (case hzisinstance => k_is)
    (case hzrange => k_is)
    (case hzmax => k_is)
    (case hzmin => k_is)
    (case hzall => k_is)
    (case hzrepr => k_is)
  case rec => rfl
  case inK =>
    intro w
    kernel_rfl
  case off =>
    intro w
    kernel_rfl
#print axioms PySem.Challenge.cw_widerkeys_k08_what_is_no_span_holds
