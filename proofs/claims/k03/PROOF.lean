import PyProof.Rows.All
import Wide.All
import OpenK.AllK
import Wide.FinOn
import PyProof.ReprRoads
import PyProof.ReprLen
import PyProof.FitsInt
import Flt.Len
import HandS.ForMost
import HandS.Wide
import HandS.IsInst
import HandS.ForExc
import HandS.ExcField
import HandS.ExcInit
import HandS.Dict
import HandS.More
import HandS.SlotsOwn
import PyProof.InstNe
import KE.KExcIs
import HandS.ExcIs
import HandS.FStr
import HandS.IsInst
import HandS.Codes
import KE.KCallOwn
import KE.KNestM
import PyProof.StrBlock2
import HandS.Lambda
import HandS.ClsMeth
import HandS.TryOnly
import HandS.Style
import PySem.Challenge.RW_widerkeys_k03_kinds_by_bits
set_option Elab.async false
set_option linter.all false
set_option maxRecDepth 100000
set_option maxHeartbeats 4000000

namespace Zg
open PySem PySem.Spec PyProof.Rows L2

/-! ### powers -/
def CPowZ (i j : Int) : Prop := 0 ≤ j ∧ (Builtin.Int.intBits i : Int) * j ≤ 2 ^ 27
theorem op_powZ {X : Cx} : OpR X (binaryOp .Pow) (rI CPowZ fun i j => .int (i ^ j.toNat)) :=
  opI fun _ _ _ _ _ _ _ hc q => pow_int hc.1 hc.2 q

/-! ### no repr runs around -/
/-- no repr runs around -/
def Calm (A : Around) : Prop := A.guards = some []
theorem Calm.deeper {A : Around} {env : Env} (h : Calm A) : Calm (A.deeper env) := h

/-- repr(x), x data at any depth -/
def rReprD (K : PySem.W.Frag) : List V → Hp → VK → Prop := fun xs H Q =>
  ∃ (x : V) (d : PyData), xs = [x] ∧ Dp K H x d ∧ d.showable = true ∧ d.hasDict = false ∧
    d.depth ≤ 64 ∧ d.shown.length ≤ sizeLine ∧ (∀ i, x = .int i → i.natAbs.log2 < 1920) ∧ Q (.str d.shown) H
theorem call_reprD {X : Cx} (hg : Calm X.A) (hu : X.A.units + 70 < cLine) : CallR X (.builtin "repr") (rReprD X.K) := by
  intro pins s σ H xs us Q I r h
  obtain ⟨x, d, rfl, hd, hs, hn, hdep, hsz, hi, q⟩ := h
  obtain ⟨u, rfl, rx⟩ := vals1 r
  obtain ⟨as, rd⟩ := Dp.reads I d x u hd rx
  have nod : d.hasDict = true → sysModules ∉ as := fun z => by rw [hn] at z; cases z
  cases hd with
  | non =>
    cases rx
    exact PySem.P.repr_of_none ⟨.str _, H, I.tok _, ⟨_, rfl⟩, q⟩
  | bl b =>
    cases rx
    refine PySem.P.repr_of_bool ⟨.str _, H, I.tok _, ⟨_, rfl⟩, ?_⟩
    cases b <;> exact q
  | int i =>
    obtain ⟨t, rfl⟩ := rx
    exact PySem.P.repr_of_int (hi i rfl) ⟨.str _, H, I.tok _, ⟨_, rfl⟩, q⟩
  | str z =>
    obtain ⟨t, rfl⟩ := rx
    exact PySem.P.repr_of_str ⟨.str _, H, I.tok _, ⟨_, rfl⟩, q⟩ hsz
  | lst h1 h2 =>
    cases rx
    refine repr_of_reads' rd hs nod hg (by omega) (fun _ _ e => e) (fun h' u tk hk => ?_) hsz
    exact ⟨.str _, H, I.kept (t' := tk) hk, ⟨_, rfl⟩, q⟩
  | tup h1 h2 =>
    cases rx
    refine repr_of_reads' rd hs nod hg (by omega) (fun _ _ e => e) (fun h' u tk hk => ?_) hsz
    exact ⟨.str _, H, I.kept (t' := tk) hk, ⟨_, rfl⟩, q⟩

/-! ### defs that are called where no repr runs -/
section
variable {P : Program} {w : World} {K : PySem.W.Frag} {mg : Str → Option Value} {base : Heap} {CX : CXT} {k : Nat} {f : Addr} {fd : FuncData} {ps : List Str} {sp : Sp}
/-- a def keeps its promise wherever it is called with no repr around -/
structure FnG (P : Program) (w : World) (K : PySem.W.Frag) (mg : Str → Option Value) (base : Heap) (CX : CXT)
    (k : Nat) (f : Addr) (fd : FuncData) (ps : List Str) (sp : Sp) : Prop where
  many : ∀ vs H Q E, sp vs H Q E → vs.length = ps.length
  goes : ∀ (A : Around), Calm A → ∀ (fr : List Env) (s : Shared) (H : Hp) (args : Args) (us : List Value) (vs : List V) (Q : VK) (E : XK),
    Room k A → Env0 P w K mg base A fr s H → BindsTo s fd args (ps.zip us) → Vals vs us → sp vs H Q E →
      codeAny (model P w) A (.call (.ref f) args) (CR CX fr P w H s Q E) s
theorem FnG.of (F : FnOk P w K mg base CX k f fd ps sp) : FnG P w K mg base CX k f fd ps sp :=
  ⟨F.len, fun A _ fr s H args us vs Q E r e b v h => F.run A fr s H args us vs Q E r e b v h⟩
theorem FnG.up {j : Nat} (F : FnG P w K mg base CX j f fd ps sp) (h : j ≤ k) : FnG P w K mg base CX k f fd ps sp :=
  ⟨F.many, fun A c fr s H args us vs Q E r => F.goes A c fr s H args us vs Q E (r.mono h)⟩

/-- a def of the text, by its body, with no repr around -/
theorem Fun_okG {x qual : Str} {st : Stmt} {N : List Str} (F : Fun K x qual st f fd) (S : FnScope N ps (defScope st)) (len : ∀ vs H Q E, sp vs H Q E → vs.length = ps.length)
    (hbody : ∀ (cd : Value) (A : Around) (fr : List Env) (s : Shared) (H : Hp) (vs : List V) (Q : VK) (E : XK), Calm A →
      Room k (A.deeper (envOfC qual (defScope st) s.heap.objs.size f cd)) → sp vs H Q E →
        ∃ t, PSs (cxOf CX P w K mg base N qual (defScope st) f cd A fr s H E).nox (defBody st) t ∧ t { nx := fun _ H' => Q .non H', rt := Q } (start N vs) H) :
    FnG P w K mg base CX (k + 1) f fd ps sp := by
  obtain ⟨oc, od, kw, doc, pm, an, cd, ct, osl, rfl, at_f, hcd⟩ := F.ex
  constructor
  · exact len
  intro A calm fr s H args us vs Q E room e0 binds rel hsp
  have hlen := len _ _ _ _ hsp
  have stays : ∀ b o, base.get? b = some o → s.heap.get? b = some o := fun b o e => (e0.bs b o e).1
  refine codeAny_call_function room.depth (e0.mod.kin.keeps stays _ _ at_f) rfl S.co S.gen rfl (PySem.W.codeRec_of (e0.mod.kin.keeps stays) hcd) (binds _ _ _ _ ?_)
  refine wpAny_newFunctionEnv_cells S.kind (fun ⟨n, v⟩ hy => ?_) fun env he s1 inC => ?_
  · cases S.par n (List.of_mem_zip hy).1 with
    | inl z => exact .inl z
    | inr z => exact .inr ⟨z, PySem.W.cellsFrom_some _ _ _ (.inl z)⟩
  subst he
  refine ⟨(e0.mod.nolimit.keeps stays).keeps inC.toInCall.keep, codeAny_func ?_⟩
  obtain ⟨t, ht, hq⟩ := hbody cd A fr s H vs Q E calm (room.deeper _) hsp
  refine wpAny_mono (ht.nox.run [] s1 (start N vs) H _ (inv_start (CX := CX) S room.hd e0 hlen rel inC) hq) (fun fl s' z => ?_) fun _ _ z => z
  match fl, z with
  | .ret _, ⟨v, _, H', J, rv, q⟩ => exact ⟨v, H', J.os, J.bare, J.base, J.hok, rv, q⟩
  | .next, ⟨_, H', J, q⟩ => exact ⟨.non, H', J.os, J.bare, J.base, J.hok, rfl, q⟩
  | .brk, ⟨_, _, _, q⟩ => exact q.elim
  | .cont, ⟨_, _, _, q⟩ => exact q.elim
end

section
variable {X : Cx} {CX : CXT} {k : Nat} {f : Addr} {fd : FuncData} {ps : List Str} {sp : Sp} {E : XK} {x : Str} {p pos : Pos} {e : Expr} {es : List Expr} {t : TA}
/-- f(e, ..) where no repr runs -/
theorem pe_callG (c : Calm X.A) (F : FnG X.prog X.w X.K X.mg X.base CX k f fd ps sp) (hr : Room k X.A) (hg : Gl X x) (hm : X.mg x = some (.ref f)) (hk : PySem.W.keepIn X.K (.ref f) = true)
    (hb : Binds X.K fd ps []) (hx : Passes CX X E) (ha : PA X (e :: es) t) (hdb : (x == ("__debug__" : Str)) = false := by decide)
    (he : starEach (e :: es) X.env = (false, eval e X.env) :: starEach es X.env := by rfl) (hpl : (backTo pos (starEach es X.env)).any (·.1) = false := by rfl) :
    PE X (.Call (.Name x p) (e :: es) [] pos) (tCall sp [] E t) := by
  constructor
  intro pins s σ H Q I h
  refine wpAny_Call_Name_kw (ld_glob I hg hm (PySem.W.callWith_K (h₀ := X.base) I.ok.mod.kin hk (thn (ha.run pos pins s σ H _ I h) fun us s1 z => ?_) he hpl) hdb)
  obtain ⟨vs, H1, J, rel, q⟩ := z
  have q' : sp vs H1 Q E := by rw [← List.append_nil vs]; exact q
  have hl : (us ++ []).length = ps.length := by rw [List.append_nil, ← rel.length]; exact F.many _ _ _ _ q'
  have b := hb s1 us J.kIn hl
  rw [List.append_nil] at b
  refine ⟨J.kIn, wpAny_call (codeAny_mono (F.goes X.A c X.stack s1 H1 ⟨us, []⟩ us vs Q E hr J.env0 b rel q') fun r s2 z => ?_)⟩
  match r, z with
  | .error _, z => exact hx pins σ H1 s1 _ s2 J z
  | .ok (.ret _), z => exact J.after z
  | .ok .next, z => exact z.elim
  | .ok .brk, z => exact z.elim
  | .ok .cont, z => exact z.elim
end

/-! ### the law's own call -/
/-- the script alone is tracked, or nothing -/
def track (a : Addr) (o : HO) : Hp := fun b => if b = a then some o else none
theorem track_at {a : Addr} {o : HO} : track a o a = some o := if_pos rfl
theorem track_off {a b : Addr} {o : HO} (h : b ≠ a) : track a o b = none := if_neg h

theorem lawG {P : Program} {w : World} {K : PySem.W.Frag} {mg mb : Str → Option Value} {k : Nat} {fa a : Addr} {fd : FuncData} {x : Str} {sp : Sp} {s : Shared} {us : List Value} {ns : List Int}
    (kin : K.In s.heap) (gl : s.heap.Ns mainGlobals mg) (bl : s.heap.Ns builtinsNs mb) (bb : ∀ x : Str, x ≠ "__name__" → mb x = bootBuiltins x) (lim : s.heap.NoLimit) (gens : s.gens = #[])
    (ha : s.heap.get? a = some { cls := .type "list", data := .seq us.toArray }) (whole : IntsAre us ns) (line : ns.length ≤ sizeLine) (room : Room k callerA)
    (F : ∀ base : Heap, K.In base → base.Ns mainGlobals mg → FnG P w K mg base CX0 k fa fd [x] sp)
    (bind : ∀ (s : Shared) (u : Value), BindsTo s fd ⟨[u], []⟩ [(x, u)])
    (hsp : ∀ H : Hp, SqL K H a (ns.map V.int) → sp [.ref a] H (fun v _ => v = .bl true) fun _ _ _ => False) :
    codeAny (model P w) callerA (.call (.ref fa) ⟨[.ref a], []⟩) (fun r s' => r = .ok (.ret (.bool true)) ∧ OldK s.heap s'.heap ∧ s'.os = s.os ∧ AllBare s'.gens) s := by
  have rel := vals_ints whole
  have size := whole.length
  -- H: the script, or nothing; what H does not track is in the base
  have go : ∀ H : Hp, SqL K H a (ns.map V.int) → HOk P w H s.heap → (∀ b u, H b = some u → b = a ∧ K.lookup a = none ∧ ∃ o xs, u = .frz o (.lst xs)) →
      codeAny (model P w) callerA (.call (.ref fa) ⟨[.ref a], []⟩) (fun r s' => r = .ok (.ret (.bool true)) ∧ OldK s.heap s'.heap ∧ s'.os = s.os ∧ AllBare s'.gens) s := by
    intro H hS hok only
    have free : ∀ {b : Addr}, b ≠ a → H b = none := fun {b} hb => by
      cases q : H b with
      | none => rfl
      | some u => exact absurd (only b u q).1 hb
    have notDict : ∀ {b : Addr} {o : Obj} {es : Array DictEntry} {n : Nat}, s.heap.get? b = some o → o.data = .dict es n → b ≠ a := fun {b o es n} e d z => by
      subst z
      rw [ha] at e
      have e' := Option.some.inj e
      subst e'
      cases d
    have keepNs : ∀ {b : Addr} {m : Str → Option Value}, s.heap.Ns b m → (hidT s.heap H).Ns b m := fun {b m} z => by
      obtain ⟨o, es, n, e, d, r⟩ := z
      exact ⟨o, es, n, hidT_get e (free (notDict e d)), d, r⟩
    have kinB : K.In (hidT s.heap H) := fun b o e => hidT_get (kin b o e) (by
      cases q : H b with
      | none => rfl
      | some u =>
        obtain ⟨z, no, _⟩ := only b u q
        rw [z, no] at e
        cases e)
    have limB : (hidT s.heap H).NoLimit := by
      obtain ⟨m, h1, h2⟩ := lim
      exact ⟨m, keepNs h1, h2⟩
    have e0 : Env0 P w K mg (hidT s.heap H) callerA [] s H :=
      { frames := rfl, mod := ⟨kinB, keepNs gl, ⟨mb, keepNs bl, bb⟩, limB⟩, bs := fun b o e => of_hidT e, bsz := Nat.le_of_eq (hidT_size _ _), funs := trivial,
        frf := fun b hb => (List.not_mem_nil (show b ∈ ([] : List Addr) from hb)).elim, hok := hok, bare := .of_eq gens }
    refine codeAny_mono ((F _ kinB (keepNs gl)).goes callerA rfl [] s H ⟨[.ref a], []⟩ [.ref a] [.ref a] _ _ room e0 (bind s (.ref a)) (.cons rfl .nil) (hsp H hS)) fun r s' z => ?_
    match r, z with
    | .error _, z => exact False.elim z
    | .ok .next, z => exact False.elim z
    | .ok .brk, z => exact False.elim z
    | .ok .cont, z => exact False.elim z
    | .ok (.ret u), z =>
      obtain ⟨v, H', os, bare, un, hok', rv, q⟩ := z
      have q' : v = .bl true := q
      subst q'
      obtain rfl : u = Value.bool true := rv
      refine ⟨rfl, OldK.of_keep fun b o e => ?_, os, bare⟩
      cases q : H b with
      | none => exact un.keep b o e q (List.not_mem_nil) (List.not_mem_nil)
      | some u =>
        obtain ⟨_, _, ob, xs, eu⟩ := only b u q
        subst eu
        have h1 := (hok b _ q).1
        have h2 := (hok' b _ (un.frzs b ob _ q)).1
        rw [e] at h1
        rw [h2, ← Option.some.inj h1]
  cases hk : K.lookup a with
  | none =>
    refine go (track a (.frz { cls := .type "list", data := .seq us.toArray } (.lst (ns.map V.int)))) (.inl (.inr ⟨_, track_at⟩)) (fun b u z => ?_) fun b u z => ?_
    · by_cases hb : b = a
      · subst hb
        have z' := track_at.symm.trans z
        cases z'
        exact ⟨ha, by rw [List.length_map]; exact line, us, _, rel, ha⟩
      · rw [track_off hb] at z
        cases z
    · by_cases hb : b = a
      · subst hb
        have z' := track_at.symm.trans z
        cases z'
        exact ⟨rfl, hk, _, _, rfl⟩
      · rw [track_off hb] at z
        cases z
  | some o =>
    have e := kin a o hk
    rw [ha] at e
    have e' := Option.some.inj e
    subst e'
    have small : us.toArray.size ≤ sizeLine := by rw [List.size_toArray, size]; exact line
    refine go (fun _ => none) (.inr ⟨_, us.toArray, _, hk, rfl, rfl, rfl, small, by simpa using rel⟩) (fun b u z => ?_) fun b u z => ?_
    · have z' : (none : Option HO) = some u := z
      cases z'
    · have z' : (none : Option HO) = some u := z
      cases z'

/-- what k_head leaves, from the law's promise -/
theorem walkG {l : PySem.W.OpenLaw} {n k : Nat} {q : Program} {loose : List Str} {XP : (Str → Option Value) → Heap → Prop} {YP : World → Heap → Prop} {d : DefRec} {K : Params → PySem.W.Frag} {sp : PySem.W.Frag → Sp} {x : Str}
    (most : l.most = some n) (line : n ≤ sizeLine) (nodef : d.params.defaults = []) (room : Room k callerA) (hY : ∀ (w : World) (h : Heap), YP w h → (K w.params).In h)
    (F : ∀ (w : World) (mg : Str → Option Value) (fa : Addr) (h : Heap), (K w.params).In h → h.Ns mainGlobals mg → mg d.name = some (.ref fa) →
      ∃ fd : FuncData, (∀ (s : Shared) (u : Value), BindsTo s fd ⟨[u], []⟩ [(x, u)]) ∧
        ∀ base : Heap, (K w.params).In base → base.Ns mainGlobals mg → FnG l.prog w (K w.params) mg base CX0 k fa fd [x] (sp (K w.params)))
    (hsp : ∀ (K : PySem.W.Frag) (H : Hp) (a : Addr) (ns : List Int), ns.length ≤ n → SqL K H a (ns.map V.int) → sp K [.ref a] H (fun v _ => v = .bl true) fun _ _ _ => False) :
    PySem.W.WalkO q loose XP YP l.row.toRowW d [] (fun f vs => PySem.call f vs) := by
  refine Att.attach_call most nodef fun w s0 s1 mg mb fa o pm cd doc a vs ns G Y _ _ _ named obj whole few gens => ?_
  have kin := hY w _ Y
  obtain ⟨fd, bind, all⟩ := F w mg fa _ kin G.T.g named
  exact lawG kin G.T.g G.T.b G.T.builtins G.T.nolimit gens obj whole (Nat.le_trans few line) room all bind fun H hS => hsp _ H a ns few hS
section
variable {K : PySem.W.Frag} {σ : L2.St} {H : Hp} {Q : VK} {D : Ends} {v x y : V} {i j : Int} {p q : Addr} {xs : List V} {ta tb tc te : TE} {tt tu : TT} {ts tr : TS}
theorem nn {H : Hp} {a b : Addr} {o : HO} (h' : H b = none) (h : H a = some o) : a ≠ b := ne_of_none h h'
theorem nn' {H : Hp} {a b : Addr} {o : HO} (h' : H b = none) (h : H a = some o) : b ≠ a := (ne_of_none h h').symm
theorem rd_var {n : Nat} (h : σ[n]? = some (some v)) (k : Q v H) : tVar n σ H Q := ⟨v, h, k⟩
theorem rd_c (k : Q v H) : tC v σ H Q := k
theorem rd_op {r : R2} (k : ta σ H fun x H1 => tb σ H1 fun y H2 => r x y H2 Q) : tOp r ta tb σ H Q := k
theorem rd_un {r : V → Hp → VK → Prop} (k : ta σ H fun x H1 => r x H1 Q) : tUn r ta σ H Q := k
theorem rd_I0 {g : Int → Int → V} (k : Q (g i j) H) : rI0 g (.int i) (.int j) H Q := ⟨i, j, rfl, rfl, k⟩
theorem rd_I {C : Int → Int → Prop} {g : Int → Int → V} (c : C i j) (k : Q (g i j) H) : rI C g (.int i) (.int j) H Q := ⟨i, j, rfl, rfl, c, k⟩
theorem rd_U {g : Int → V} (k : Q (g i) H) : rU g (.int i) H Q := ⟨i, rfl, k⟩
theorem rd_eq (s : scal x y = true) (k : Q (.bl (decide (x = y))) H) : rEq x y H Q := ⟨s, k⟩
theorem rd_ne (s : scal x y = true) (k : Q (.bl (!decide (x = y))) H) : rNe x y H Q := ⟨s, k⟩
theorem rd_ixL (h : H p = some (.lst xs)) (e : atI xs i = some v) (k : Q v H) : rIxL K (.ref p) (.int i) H Q := ⟨p, xs, i, v, rfl, rfl, SqL.of h, e, k⟩
theorem rd_ixLs (h : SqL K H p xs) (e : atI xs i = some v) (k : Q v H) : rIxL K (.ref p) (.int i) H Q := ⟨p, xs, i, v, rfl, rfl, h, e, k⟩
theorem rd_ixT (h : H p = some (.tup xs)) (e : atI xs i = some v) (k : Q v H) : rIxT K (.ref p) (.int i) H Q := ⟨p, xs, i, v, rfl, rfl, SqT.of h, e, k⟩
theorem rd_setL {z : V} {n : Nat} {R : Hp → Prop} (h : H p = some (.lst xs)) (e : ixN xs.length i = some n) (k : R (upd H p (.lst (xs.set n z)))) : rSetL (.ref p) (.int i) z H R := ⟨p, xs, i, n, rfl, rfl, h, e, k⟩
theorem rd_sub {to ti : TE} {t : TSet} {R : L2.St → Hp → Prop} (k : to σ H fun o H1 => ti σ H1 fun i H2 => t o i v H2 fun H3 => R σ H3) : gSub to ti t v σ H R := k
theorem rd_test {R : Bool → Hp → Prop} (k : ta σ H fun x H' => ∃ b, x = .bl b ∧ R b H') : tTest ta σ H R := k
theorem rd_tB {R : Bool → Hp → Prop} (k : ta σ H fun x H' => ∃ b, x = .bl b ∧ R b H') : tB ta σ H R := k
theorem rd_bl {b : Bool} {R : Bool → Prop} (k : R b) : ∃ c, V.bl b = .bl c ∧ R c := ⟨b, rfl, k⟩
theorem rd_chain {r r' : R2} (k : ta σ H fun x H1 => tb σ H1 fun y H2 => r x y H2 fun z H3 => ∃ b, z = .bl b ∧ if b = true then tc σ H3 fun u H4 => r' y u H4 Q else Q (.bl false) H3) : tChain r r' ta tb tc σ H Q := k
theorem rd_and {R : Bool → Hp → Prop} (k : tt σ H fun c H1 => if c = true then tu σ H1 R else R false H1) : tAnd tt tu σ H R := k
theorem rd_or {R : Bool → Hp → Prop} (k : tt σ H fun c H1 => if c = true then R true H1 else tu σ H1 R) : tOr tt tu σ H R := k
theorem rd_not {R : Bool → Hp → Prop} (k : tt σ H fun c H1 => R (!c) H1) : tNot tt σ H R := k
theorem rd_andV (k : ta σ H fun x H1 => ∃ c, x = .bl c ∧ if c = true then tb σ H1 Q else Q (.bl false) H1) : tAndV ta tb σ H Q := k
theorem rd_orV (k : ta σ H fun x H1 => ∃ c, x = .bl c ∧ if c = true then Q (.bl true) H1 else tb σ H1 Q) : tOrV ta tb σ H Q := k
theorem rd_notV (k : ta σ H fun x H1 => ∃ c, x = .bl c ∧ Q (.bl (!c)) H1) : tNotV ta σ H Q := k
theorem rd_if (k : tt σ H fun c H1 => if c = true then ta σ H1 Q else tb σ H1 Q) : tIf tt ta tb σ H Q := k
theorem rd_ifS (k : tt σ H fun b H1 => if b = true then ts D σ H1 else tr D σ H1) : tIfS tt ts tr D σ H := k
theorem rd_seq (k : ts { D with nx := tr D } σ H) : tSeq ts tr D σ H := k
theorem rd_next (k : D.nx σ H) : tNext D σ H := k
theorem rd_asg {g : TG} (k : te σ H fun x H1 => g x σ H1 D.nx) : tAsg te g D σ H := k
theorem rd_name {n : Nat} {R : L2.St → Hp → Prop} (k : R (σ.set n (some v)) H) : gName n v σ H R := k
theorem rd_gnil {R : L2.St → Hp → Prop} (k : R σ H) : gNil [] σ H R := ⟨rfl, k⟩
theorem rd_gcons {t : TG} {u : TGs} {R : L2.St → Hp → Prop} (k : t v σ H fun σ' H' => u xs σ' H' R) : gCons t u (v :: xs) σ H R := ⟨v, xs, rfl, k⟩
theorem rd_gtup {n : Nat} {t : TGs} {R : L2.St → Hp → Prop} (h : H p = some (.tup xs)) (e : xs.length = n) (k : t xs σ H R) : gTup K n t (.ref p) σ H R := ⟨p, xs, rfl, SqT.of h, e, k⟩
theorem rd_par {a b : Nat} {tA : TA} (k : tA σ H fun vs H1 => ∃ v w, vs = [v, w] ∧ D.nx ((σ.set a (some v)).set b (some w)) H1) : tPar a b tA D σ H := k
theorem rd_par2 {R : V → V → Prop} (k : R x y) : ∃ v w, [x, y] = [v, w] ∧ R v w := ⟨x, y, rfl, k⟩
theorem rd_drop (k : te σ H fun _ H1 => D.nx σ H1) : tDrop te D σ H := k
theorem rd_ret (k : te σ H D.rt) : tRet te D σ H := k
theorem rd_retN (k : D.rt .non H) : tRetN D σ H := k
theorem rd_nil {R : List V → Hp → Prop} (k : R [] H) : tNil σ H R := k
theorem rd_cons {tl : TA} {R : List V → Hp → Prop} (k : ta σ H fun x H1 => tl σ H1 fun xs H2 => R (x :: xs) H2) : tCons ta tl σ H R := k
theorem rd_tup {tA : TA} (k : tA σ H fun xs H1 => xs.length ≤ sizeLine ∧ ∀ p, H1 p = none → Q (.ref p) (upd H1 p (.tup xs))) : tTup tA σ H Q := k
theorem rd_lst {tA : TA} (k : tA σ H fun xs H1 => xs.length ≤ sizeLine ∧ ∀ p, H1 p = none → Q (.ref p) (upd H1 p (.lst xs))) : tLst tA σ H Q := k
theorem few {n : Nat} (h : n ≤ 1000) : n ≤ sizeLine := Nat.le_of_lt (small1000 h)
theorem rd_new {R : Addr → Prop} (h : xs.length ≤ 1000) (k : ∀ p, H p = none → R p) : xs.length ≤ sizeLine ∧ ∀ p, H p = none → R p := ⟨few h, k⟩
theorem rd_cb {r : List V → Hp → VK → Prop} {tA : TA} (k : tA σ H fun vs H1 => r vs H1 Q) : tCB r tA σ H Q := k
theorem rd_call {sp : Sp} {E : XK} {tA : TA} (k : tA σ H fun vs H1 => sp (vs ++ []) H1 Q E) : tCall sp [] E tA σ H Q := k
theorem rd_make {C : Addr} {sp : Sp} {E : XK} {tA : TA} (k : tA σ H fun vs H1 => ∀ x dx, H1 x = none → H1 dx = none → dx ≠ x →
  sp (.ref x :: (vs ++ [])) (upd (upd H1 dx (.own x)) x (.ins C dx [])) (fun v H2 => v = .non ∧ Q (.ref x) H2) E) : tMake C sp [] E tA σ H Q := k
theorem rd_fld {f : Str} (k : ta σ H fun x H1 => ∃ a C dx fs v, x = .ref a ∧ H1 a = some (.ins C dx fs) ∧ Cls K C ∧ NoAttr K C f ∧ fs.lookup f = some v ∧ Q v H1) : tFld K ta f σ H Q := k
theorem rd_int {R : Int → Prop} {S : Prop} (k : R i) : (∃ j, [V.int i] = [V.int j] ∧ R j) ∨ S := .inl ⟨i, rfl, k⟩
theorem rd_intB {b : Bool} {R : Bool → Prop} {S : Prop} (k : R b) : S ∨ (∃ c, [V.bl b] = [V.bl c] ∧ R c) := .inr ⟨b, rfl, k⟩
theorem rd_one {R : Int → Prop} (k : R i) : ∃ j, [V.int i] = [V.int j] ∧ R j := ⟨i, rfl, k⟩
theorem rd_two {R : Int → Int → Prop} (k : R i j) : ∃ a b, [V.int i, V.int j] = [V.int a, V.int b] ∧ R a b := ⟨i, j, rfl, k⟩
theorem rd_lenL {R : List V → Prop} (h : H p = some (.lst xs)) (k : R xs) : ∃ a ys, [V.ref p] = [V.ref a] ∧ (SqL K H a ys ∨ SqT K H a ys) ∧ R ys := ⟨p, xs, rfl, .inl (SqL.of h), k⟩
theorem rd_lenLs {R : List V → Prop} (h : SqL K H p xs) (k : R xs) : ∃ a ys, [V.ref p] = [V.ref a] ∧ (SqL K H a ys ∨ SqT K H a ys) ∧ R ys := ⟨p, xs, rfl, .inl h, k⟩
theorem rd_lenT {R : List V → Prop} (h : H p = some (.tup xs)) (k : R xs) : ∃ a ys, [V.ref p] = [V.ref a] ∧ (SqL K H a ys ∨ SqT K H a ys) ∧ R ys := ⟨p, xs, rfl, .inr (SqT.of h), k⟩
theorem rd_fldI {C dx a : Addr} {fs : List (Str × V)} {f : Str} (h : H a = some (.ins C dx fs)) (c : Cls K C) (n : NoAttr K C f) (l : fs.lookup f = some v) (k : Q v H) :
    ∃ a' C dx fs v, V.ref a = .ref a' ∧ H a' = some (.ins C dx fs) ∧ Cls K C ∧ NoAttr K C f ∧ fs.lookup f = some v ∧ Q v H := ⟨a, C, dx, fs, v, rfl, h, c, n, l, k⟩
theorem rd_ite {c : Prop} [Decidable c] {A B : Prop} (h1 : c → A) (h2 : ¬ c → B) : if decide c = true then A else B := by
  by_cases h : c
  · rw [if_pos (decide_eq_true h)]
    exact h1 h
  · rw [if_neg (by rw [decide_eq_false h]; exact Bool.false_ne_true)]
    exact h2 h
theorem rd_iteN {c : Prop} [Decidable c] {A B : Prop} (h1 : ¬ c → A) (h2 : c → B) : if (!decide c) = true then A else B := by
  by_cases h : c
  · rw [decide_eq_true h]
    exact iteF (h2 h)
  · rw [decide_eq_false h]
    exact iteT (h1 h)
theorem rd_iteB {b : Bool} {A B : Prop} (h1 : b = true → A) (h2 : b = false → B) : if b = true then A else B := by
  cases b with
  | true => exact iteT (h1 rfl)
  | false => exact iteF (h2 rfl)
end
section
variable {K : PySem.W.Frag} {H : Hp} {Q : VK} {a b c : V} {p : Addr} {xs : List V}
theorem rd_ixL0 (h : H p = some (.lst (a :: xs))) (k : Q a H) : rIxL K (.ref p) (.int 0) H Q := rd_ixL h (atI_nat (j := 0) rfl) k
theorem rd_ixL1 (h : H p = some (.lst (a :: b :: xs))) (k : Q b H) : rIxL K (.ref p) (.int 1) H Q := rd_ixL h (atI_nat (j := 1) rfl) k
theorem rd_ixL2 (h : H p = some (.lst (a :: b :: c :: xs))) (k : Q c H) : rIxL K (.ref p) (.int 2) H Q := rd_ixL h (atI_nat (j := 2) rfl) k
theorem rd_ixT0 (h : H p = some (.tup (a :: xs))) (k : Q a H) : rIxT K (.ref p) (.int 0) H Q := rd_ixT h (atI_nat (j := 0) rfl) k
theorem rd_ixT1 (h : H p = some (.tup (a :: b :: xs))) (k : Q b H) : rIxT K (.ref p) (.int 1) H Q := rd_ixT h (atI_nat (j := 1) rfl) k
theorem rd_setL0 {z : V} {R : Hp → Prop} (h : H p = some (.lst (a :: xs))) (k : R (upd H p (.lst (z :: xs)))) : rSetL (.ref p) (.int 0) z H R := rd_setL (n := 0) h (by simp [ixN]) k
theorem rd_setL2 {z : V} {R : Hp → Prop} (h : H p = some (.lst (a :: b :: c :: xs))) (k : R (upd H p (.lst (a :: b :: z :: xs)))) : rSetL (.ref p) (.int 2) z H R := rd_setL (n := 2) h (by simp [ixN]; omega) k
end
section
variable {K : PySem.W.Frag} {H : Hp} {Q : VK} {i j : Int} {p : Addr} {xs : List V}
/-- an item at an open place within -/
theorem rd_ixLr (h : H p = some (.lst xs)) (h0 : 0 ≤ i) (h1 : i < xs.length) (k : ∀ v, v ∈ xs → Q v H) : rIxL K (.ref p) (.int i) H Q := by
  have hlt : i.toNat < xs.length := by omega
  have e : xs[i.toNat]? = some xs[i.toNat] := List.getElem?_eq_getElem hlt
  exact rd_ixL h (at_of (Int.toNat_of_nonneg h0).symm e) (k _ (List.getElem_mem hlt))
theorem rd_ixLsr (h : SqL K H p xs) (h0 : 0 ≤ i) (h1 : i < xs.length) (k : ∀ v, v ∈ xs → Q v H) : rIxL K (.ref p) (.int i) H Q := by
  have hlt : i.toNat < xs.length := by omega
  have e : xs[i.toNat]? = some xs[i.toNat] := List.getElem?_eq_getElem hlt
  exact rd_ixLs h (at_of (Int.toNat_of_nonneg h0).symm e) (k _ (List.getElem_mem hlt))
/-- % hands on a letter -/
theorem rd_mod (c : 0 < j) (k : ∀ r, r = i % j → 0 ≤ r → r < j → Q (.int r) H) : rI (fun _ j => 0 < j) (fun i j => .int (i % j)) (.int i) (.int j) H Q :=
  rd_I c (k _ rfl (Int.emod_nonneg _ (by omega)) (Int.emod_lt_of_pos _ c))
theorem cmul_l (h1 : -(2 ^ 64) < i) (h2 : i < 2 ^ 64) : CMul i j := .inl ⟨h1, h2⟩
theorem cmul_r (h1 : -(2 ^ 64) < j) (h2 : j < 2 ^ 64) : CMul i j := .inr ⟨h1, h2⟩
theorem cpow (h0 : 0 ≤ j) (h1 : j ≤ 1000000) (h2 : -(2 ^ 64) < i) (h3 : i < 2 ^ 64) : CPow i j := ⟨h0, h1, by omega⟩
theorem cdivw {n : Int} (h0 : 0 < j) (h1 : j < 2 ^ 200) : CDivW n j := wide_div h0 (b := 200) (by omega) (by decide) (by decide)
end
section
variable {K : PySem.W.Frag} {σ : L2.St} {H : Hp} {Q : VK} {D : Ends} {v x y : V} {i j : Int} {a C dx : Addr} {fs : List (Str × V)} {ta te : TE} {f : Str}
theorem rd_sfld (k : te σ H fun y H1 => ta σ H1 fun x H2 => ∃ a C dx fs, x = .ref a ∧ H2 a = some (.ins C dx fs) ∧ Cls K C ∧ NoAttr K C f ∧ fs.length < 1000 ∧ D.nx σ (upd H2 a (.ins C dx (putF f y fs)))) : sFld K ta te f D σ H := k
theorem rd_sfldI {R : Hp → Prop} (h : H a = some (.ins C dx fs)) (c : Cls K C) (n : NoAttr K C f) (l : fs.length < 1000) (k : R (upd H a (.ins C dx (putF f y fs)))) :
    ∃ a' C' dx' fs', V.ref a = .ref a' ∧ H a' = some (.ins C' dx' fs') ∧ Cls K C' ∧ NoAttr K C' f ∧ fs'.length < 1000 ∧ R (upd H a' (.ins C' dx' (putF f y fs'))) := ⟨a, C, dx, fs, rfl, h, c, n, l, k⟩
end
theorem rd_rf {R : Prop} (k : R) : V.non = V.non ∧ R := ⟨rfl, k⟩
theorem rd_bm {K : PySem.W.Frag} {T : String} {r : V → List V → Hp → VK → Prop} {to : TE} {t : TA} {σ : L2.St} {H : Hp} {Q : VK} (k : to σ H fun x H1 => tyV K T x H1 ∧ t σ H1 fun xs H2 => r x xs H2 Q) : tBM K T r to t σ H Q := k
local macro_rules | `(tactic| fail "z hp") => `(tactic| (with_reducible first
  | assumption
  | exact L2.upd_same
  | (refine' (L2.upd_ne ?zn).trans ?zm; (case zn => fail "z ne"); (case zm => fail "z hp"))))
local macro_rules | `(tactic| fail "z ne") => `(tactic| (with_reducible first
  | assumption
  | exact Ne.symm (by assumption)
  | exact Zg.nn (by assumption) (by assumption)
  | exact Zg.nn' (by assumption) (by assumption)
  | (refine' Zg.nn (by assumption) ?zm; (case zm => fail "z hp"))
  | (refine' Zg.nn' (by assumption) ?zm; (case zm => fail "z hp"))))
local macro_rules | `(tactic| fail "z 1") => `(tactic| (with_reducible first
  | refine Zg.rd_var rfl ?_
  | refine Zg.rd_c ?_
  | refine Zg.rd_seq ?_
  | refine Zg.rd_asg ?_
  | refine Zg.rd_name ?_
  | refine Zg.rd_op ?_
  | refine Zg.rd_I0 ?_
  | refine Zg.rd_ret ?_
  | refine Zg.rd_ifS ?_
  | refine Zg.rd_test ?_
  | refine Zg.rd_tB ?_
  | refine Zg.rd_bl ?_
  | refine Zg.rd_un ?_
  | refine Zg.rd_U ?_
  | refine Zg.rd_cons ?_
  | refine Zg.rd_nil ?_
  | refine Zg.rd_sub ?_
  | refine Zg.rd_lst ?_
  | refine Zg.rd_tup ?_
  | refine Zg.rd_cb ?_
  | refine Zg.rd_call ?_
  | refine Zg.rd_make ?_
  | refine Zg.rd_fld ?_
  | refine Zg.rd_chain ?_
  | refine Zg.rd_and ?_
  | refine Zg.rd_or ?_
  | refine Zg.rd_not ?_
  | refine Zg.rd_andV ?_
  | refine Zg.rd_orV ?_
  | refine Zg.rd_notV ?_
  | refine Zg.rd_if ?_
  | refine Zg.rd_next ?_
  | refine Zg.rd_par ?_
  | refine Zg.rd_par2 ?_
  | refine Zg.rd_gnil ?_
  | refine Zg.rd_gcons ?_
  | refine Zg.rd_drop ?_
  | refine Zg.rd_retN ?_
  | refine Zg.rd_eq rfl ?_
  | refine Zg.rd_ne rfl ?_
  | refine Zg.rd_int ?_
  | refine Zg.rd_intB ?_
  | refine Zg.rd_one ?_
  | refine Zg.rd_two ?_
  | refine Zg.rd_sfld ?_
  | refine Zg.rd_bm ?_))
local macro_rules | `(tactic| fail "z side") => `(tactic| (with_reducible first
  | assumption
  | exact Zg.cmul_l (by omega) (by omega)
  | exact Zg.cmul_r (by omega) (by omega)
  | exact Zg.cpow (by omega) (by omega) (by omega) (by omega)
  | exact Zg.cdivw (by omega) (by omega)
  | (show (0 : Int) < _; omega)))
local macro_rules | `(tactic| fail "z 2") => `(tactic| (with_reducible first
  | (refine' Zg.rd_ixL0 ?zh ?_; (case zh => fail "z hp"))
  | (refine' Zg.rd_ixL1 ?zh ?_; (case zh => fail "z hp"))
  | (refine' Zg.rd_ixL2 ?zh ?_; (case zh => fail "z hp"))
  | (refine' Zg.rd_ixT0 ?zh ?_; (case zh => fail "z hp"))
  | (refine' Zg.rd_ixT1 ?zh ?_; (case zh => fail "z hp"))
  | (refine' Zg.rd_I ?zh ?_; (case zh => fail "z side"))
  | (refine' Zg.rd_setL0 ?zh ?_; (case zh => fail "z hp"))
  | (refine' Zg.rd_setL2 ?zh ?_; (case zh => fail "z hp"))
  | (refine' Zg.rd_lenL ?zh ?_; (case zh => fail "z hp"))
  | (refine' Zg.rd_lenT ?zh ?_; (case zh => fail "z hp"))
  | (refine' Zg.rd_new ?zh ?_; (case zh => exact (Nat.le_of_ble_eq_true rfl)))))
local macro_rules | `(tactic| fail "z go") => `(tactic| repeat (first | fail "z 1" | fail "z 2"))
local macro_rules | `(tactic| fail "z run") => `(tactic| repeat (first | fail "z 1" | fail "z 2" | (with_reducible first | refine L2.iteT ?_ | refine L2.iteF ?_ | refine Zg.rd_rf ?_)))
/-! ### own operators of instances -/
section
variable {X : Cx} {CX : CXT} {pins : List (Addr × Obj)} {σ : L2.St} {H : Hp} {s : Shared} {C g : Addr} {fd : FuncData} {ps : List Str} {k : Nat} {sp : Sp} {E : XK}
theorem run_in {A : Around} {Q : VK} {us : List Value} {ws : List V} (F : FnOk X.prog X.w X.K X.mg X.base CX k g fd ps sp) (hr : Room k A) (hb : Binds X.K fd ps []) (e0 : Env0 X.prog X.w X.K X.mg X.base A X.stack s H)
    (hx : Passes CX X E) (I : Inv X pins σ H s) (r : Vals ws us) (h : sp ws H Q E) : wpAny (model X.prog X.w) A (call (.ref g) us) (EP X pins σ Q) X.xe s := by
  have hl : (us ++ []).length = ps.length := by rw [List.append_nil, ← r.length]; exact F.len _ _ _ _ h
  have b := hb s us I.kIn hl
  rw [List.append_nil] at b
  refine wpAny_call (codeAny_mono (F.run A X.stack s H ⟨us, []⟩ us ws Q E hr e0 b r h) fun r s' hq => ?_)
  match r, hq with
  | .error e, z => exact hx pins σ H s e s' I z
  | .ok (.ret _), z => exact I.after z
  | .ok .next, z => exact z.elim
  | .ok .brk, z => exact z.elim
  | .ok .cont, z => exact z.elim
/-- x op y, two instances of the class at C whose def for op is at g -/
def rOwnI (C : Addr) (sp : Sp) (E : XK) : R2 := fun x y H Q => ∃ a dx fs b dy gs, x = .ref a ∧ y = .ref b ∧ H a = some (.ins C dx fs) ∧ H b = some (.ins C dy gs) ∧ sp [x, y] H Q E
theorem op_cmpI {op : CmpOp} (hop : ∀ a b, compareOp op a b = richCompare op a b) (hs : PySem.W.findIn X.K (.ref C) (cmpInfo op).2.1 = some (some (.ref g))) (hf : PySem.W.isFn X.K (.ref g) = true)
    (F : FnOk X.prog X.w X.K X.mg X.base CX k g fd ps sp) (hr : Room k X.A) (hb : Binds X.K fd ps []) (hx : Passes CX X E) : OpR X (compareOp op) (rOwnI C sp E) := by
  intro pins s σ H x y v u Q I rx ry h
  obtain ⟨a, dx, fs, b, dy, gs, rfl, rfl, ha, hb', q⟩ := h
  cases (show v = Value.ref a from rx)
  cases (show u = Value.ref b from ry)
  obtain ⟨mA, O, _⟩ := ins_get I.hok ha
  obtain ⟨od, J, _⟩ := O.look
  obtain ⟨mB, O', _⟩ := ins_get I.hok hb'
  obtain ⟨od', J', _⟩ := O'.look
  obtain ⟨m, hF⟩ := I.fr
  rw [hop]
  refine PySem.W.cmp_K (op := op) (tb := .ref C) hr.units0 hF I.ok.mod.kin J J'.type (by simp [PySem.W.notFirst]) hs hf ?_
  refine wpAny_mono (run_in (us := [.ref a, .ref b]) (ws := [.ref a, .ref b]) F hr hb I.env0 hx I (.cons rfl (.cons rfl .nil)) q) (fun w s' z => ?_) fun _ _ x => x
  obtain ⟨z', H', I', rz, qz⟩ := z
  exact SlX.cmpback rz ⟨z', H', I', rz, qz⟩
theorem op_binI {op : Operator} (hc : PySem.W.selfFirst X.K C = true) (hs : PySem.W.findIn X.K (.ref C) (PySem.dunder op.info.2) = some (some (.ref g))) (hf : PySem.W.isFn X.K (.ref g) = true)
    (F : FnOk X.prog X.w X.K X.mg X.base CX k g fd ps sp) (hr : Room k X.A) (hb : Binds X.K fd ps []) (hx : Passes CX X E) : OpR X (binaryOp op) (rOwnI C sp E) := by
  intro pins s σ H x y v u Q I rx ry h
  obtain ⟨a, dx, fs, b, dy, gs, rfl, rfl, ha, hb', q⟩ := h
  cases (show v = Value.ref a from rx)
  cases (show u = Value.ref b from ry)
  obtain ⟨mA, O, _⟩ := ins_get I.hok ha
  obtain ⟨od, J, _⟩ := O.look
  obtain ⟨mB, O', _⟩ := ins_get I.hok hb'
  obtain ⟨od', J', _⟩ := O'.look
  obtain ⟨m, hF⟩ := I.fr
  refine PySem.W.binop_K hF I.ok.mod.kin J J'.type hc hs hf ?_
  refine wpAny_mono (run_in (us := [.ref a, .ref b]) (ws := [.ref a, .ref b]) F hr hb I.env0 hx I (.cons rfl (.cons rfl .nil)) q) (fun w s' z => ?_) fun _ _ x => x
  obtain ⟨z', H', I', rz, qz⟩ := z
  exact SlX.cmpback rz ⟨z', H', I', rz, qz⟩
end
section
variable {M : Model} {prog : Program} {w : World} {A : Around} {E : Value → Shared → Prop} {s : Shared} {K : PySem.W.Frag} {x C f : Addr} {ox : Obj} {od : Option Obj} {b : Value}
theorem ifBound_ne {args : List Value} {Q : Option Value → Shared → Prop} (X : K.In s.heap) (I : PySem.W.InstAt s.heap x ox C od) (hs : PySem.W.findIn K (.ref C) "__ne__" = some (some (.builtin "object.__ne__")))
    (h : wpAny M A (call (.builtin "object.__ne__") (.ref x :: args)) (fun v => Q (some v)) E s) : wpAny M A (callSpecialIfBound? (.ref x) "__ne__" args) Q E s := by
  simp only [callSpecialIfBound?, bindSpecialIfBound?]
  refine wpAny_holding (wpAny_bind (wpAny_bind (wpAny_bind (I.type.here ((PySem.W.looks_findIn X hs).here ?_)))))
  refine wpAny_bind (wpAny_askSetting (wpAny_ite ?_))
  have fin : wpAny M A (call (.builtin "object.__ne__") ([.ref x] ++ args) >>= fun v => pure (some v)) Q E s := wpAny_bind (wpAny_mono h (fun v s' h' => wpAny_pure h') fun _ _ h' => h')
  split
  · exact wpAny_bind (wpAny_of_eq (F.cmp_object.ne.bind _) (wpAny_pure (by exact fin)))
  · exact wpAny_tryCatch (wpAny_bind (wpAny_of_eq (F.cmp_object.ne.bind _) (wpAny_pure (by exact fin))))
theorem entry_ne {Q : PySem.Fin → Shared → Prop} (hu : A.units < cLine) (X : K.In s.heap) (I : PySem.W.InstAt s.heap x ox C od) (hs : PySem.W.findIn K (.ref C) "__eq__" = some (some (.ref f))) (hf : PySem.W.isFn K (.ref f) = true)
    (h : wpAny (model prog w) A (call (.ref f) [.ref x, b]) (fun v s' => ∃ c, v = .bool c ∧ Q (.done (.ret (.bool (!c)))) s') E s) : wpAny (model prog w) A (Builtin.«object.__ne__» ⟨[.ref x, b], []⟩) Q E s := by
  unfold Builtin.«object.__ne__»
  repeat (first
    | with_reducible refine wpAny_cRoomFor hu ?_
    | (refine wpAny_bind (m := callSpecialIfBound? (.ref x) (Str.ofString "__eq__") [b])
        (PySem.W.ifBound_K X I hs hf (wpAny_mono h (fun r s' hr => by
          obtain ⟨c, rfl, hq⟩ := hr
          repeat (first | exact hq | exact wpAny_pure hq | exact wpAny_truthy_bool hq | (refine wpAny_bind (m := truthy (.bool _)) (wpAny_truthy_bool ?_)) | wp_step)) fun _ _ e => e)))
    | wp_step)
theorem ne_K {L : Addr} {h₀ : Heap} {m : Str → Option Value} {Q : Value → Shared → Prop} (hu : A.units + 1 < cLine) (F0 : PyProof.Rows.Fr h₀ L s.heap m) (X₀ : K.In h₀) (I : PySem.W.InstAt s.heap x ox C od) (hb : PySem.W.Looks (model prog w) s.heap (typeOf b) (.ref C))
    (hm : PySem.W.mroIn K C (.type "object") = some true) (hn : PySem.W.findIn K (.ref C) "__ne__" = some (some (.builtin "object.__ne__"))) (hs : PySem.W.findIn K (.ref C) "__eq__" = some (some (.ref f))) (hf : PySem.W.isFn K (.ref f) = true)
    (h : wpAny (model prog w) A.in1 (call (.ref f) [.ref x, b]) (fun v s' => ∃ c, v = .bool c ∧ Q (.bool (!c)) s') E s) : wpAny (model prog w) A (richCompare .NotEq (.ref x) b) Q E s := by
  have X := X₀.keeps F0.keep
  have one : wpAny (model prog w) A (tryCompare (.ref x) "__ne__" b) (fun r s' => ∃ v, r = some v ∧ Q v s') E s := by
    unfold tryCompare
    refine wpAny_bind (ifBound_ne X I hn (wpAny_call (codeAny_call_builtin F.cmp_object.ne.plain F.cmpEntry_ne (PySem.W.check_slot F.cmpKind_ne F.cmpSplit_ne (I.type.andThen (PySem.W.looks_mroIn X hm)) (F.cmpArgs_ne _ _)
      (entry_ne (A := A.in1) hu X I hs hf (wpAny_mono h (fun v s' hv => ?_) fun _ _ e => e))))))
    obtain ⟨c, rfl, hq⟩ := hv
    first
      | exact ⟨c, rfl, wpAny_pure ⟨_, rfl, hq⟩⟩
      | exact ⟨c, rfl, _, rfl, hq⟩
  simp only [richCompare, cmpInfo_NotEq, oneThing_ref]
  refine wpAny_holding (wpAny_bind (wpAny_cRoomFor (Nat.lt_of_succ_lt hu) ?_))
  refine wpAny_bind (I.type.here (wpAny_bind (hb.here ?_)))
  rw [show (Value.ref C != Value.ref C) = false from by simp]
  simp only [Bool.false_eq_true, if_false]
  refine wpAny_bind (wpAny_pure ?_)
  simp only [Bool.false_eq_true, if_false]
  refine wpAny_bind (wpAny_mono one (fun r s' z => ?_) fun _ _ e => e)
  obtain ⟨v, rfl, hq⟩ := z
  exact wpAny_pure hq
end
section
variable {X : Cx} {CX : CXT} {C g : Addr} {fd : FuncData} {ps : List Str} {k : Nat} {sp : Sp} {E : XK}
/-- x != y by the own == -/
def rNeI (C : Addr) (sp : Sp) (E : XK) : R2 := fun x y H Q => ∃ a dx fs b dy gs, x = .ref a ∧ y = .ref b ∧ H a = some (.ins C dx fs) ∧ H b = some (.ins C dy gs) ∧ sp [x, y] H (fun z H' => ∃ c, z = .bl c ∧ Q (.bl (!c)) H') E
theorem op_neI (hm : PySem.W.mroIn X.K C (.type "object") = some true) (hn : PySem.W.findIn X.K (.ref C) "__ne__" = some (some (.builtin "object.__ne__"))) (hs : PySem.W.findIn X.K (.ref C) "__eq__" = some (some (.ref g))) (hf : PySem.W.isFn X.K (.ref g) = true)
    (F : FnOk X.prog X.w X.K X.mg X.base CX k g fd ps sp) (hr : Room (k + 1) X.A) (hb : Binds X.K fd ps []) (hx : Passes CX X E) (hu : X.A.units + 1 < cLine) : OpR X (compareOp .NotEq) (rNeI C sp E) := by
  intro pins s σ H x y v u Q I rx ry h
  obtain ⟨a, dx, fs, b, dy, gs, rfl, rfl, ha, hb', q⟩ := h
  cases (show v = Value.ref a from rx)
  cases (show u = Value.ref b from ry)
  obtain ⟨mA, O, _⟩ := ins_get I.hok ha
  obtain ⟨od, J, _⟩ := O.look
  obtain ⟨mB, O', _⟩ := ins_get I.hok hb'
  obtain ⟨od', J', _⟩ := O'.look
  obtain ⟨m, hF⟩ := I.fr
  show wpAny _ _ (richCompare .NotEq (.ref a) (.ref b)) _ _ s
  refine ne_K hu hF I.ok.mod.kin J J'.type hm hn hs hf ?_
  refine wpAny_mono (run_in (us := [.ref a, .ref b]) (ws := [.ref a, .ref b]) F hr.in1 hb I.env0.in1 hx I (.cons rfl (.cons rfl .nil)) q) (fun w s' z => ?_) fun _ _ x => x
  obtain ⟨z', H', I', rz, c, ec, qz⟩ := z
  subst ec
  cases (show w = Value.bool c from rz)
  exact ⟨c, rfl, .bl (!c), H', I', rfl, qz⟩
end
def top (i : Nat) : Stmt := PySem.Challenge.pw_widerkeys_k03_kinds_by_bits.main.body.getD i (.Pass ⟨0, 0, 0, 0⟩)
abbrev s__law_take : Stmt := (top 20)
abbrev N__law_take : List Str := ["_law_pot", "_law_upto", "_law_digit", "_law_prime", "_law_stirred"]
abbrev P__law_take : List Str := ["_law_pot", "_law_upto"]
theorem sc__law_take : FnScope N__law_take P__law_take (defScope s__law_take) := ⟨rfl, rfl, rfl, by decide +kernel, rfl, by decide +kernel, by decide +kernel⟩
abbrev s__law_of : Stmt := (top 21)
abbrev N__law_of : List Str := ["_law_pot", "_law_some"]
abbrev P__law_of : List Str := ["_law_pot", "_law_some"]
theorem sc__law_of : FnScope N__law_of P__law_of (defScope s__law_of) := ⟨rfl, rfl, rfl, by decide +kernel, rfl, by decide +kernel, by decide +kernel⟩
abbrev s__law_pot_of : Stmt := (top 19)
abbrev N__law_pot_of : List Str := ["_law_script", "_law_k", "_law_cell", "_law_own"]
abbrev P__law_pot_of : List Str := ["_law_script", "_law_k"]
theorem sc__law_pot_of : FnScope N__law_pot_of P__law_pot_of (defScope s__law_pot_of) := ⟨rfl, rfl, rfl, by decide +kernel, rfl, by decide +kernel, by decide +kernel⟩

/-- a pot from which n more numbers may be drawn -/
def Pot (H : Hp) (p : Addr) (n : Nat) : Prop := ∃ o s c : Int, H p = some (.lst [.int o, .int s, .int c]) ∧ 0 ≤ o ∧ 0 ≤ s ∧ s < 2305843009213693921 ∧ 0 ≤ c ∧ c + n ≤ 100000
/-- all that was tracked stands, but p -/
def Kp (p : Addr) (H H' : Hp) : Prop := ∀ b o, b ≠ p → H b = some o → H' b = some o
theorem Kp.refl {p : Addr} {H : Hp} : Kp p H H := fun _ _ _ h => h
theorem Kp.trans {p : Addr} {H H1 H2 : Hp} (a : Kp p H H1) (b : Kp p H1 H2) : Kp p H H2 := fun c o n h => b c o n (a c o n h)
theorem Kp.put {p : Addr} {H H1 : Hp} {o : HO} (a : Kp p H H1) : Kp p H (upd H1 p o) := fun c u n h => by
  rw [upd_ne n]
  exact a c u n h
theorem Kp.new {p q : Addr} {H H1 : Hp} {o : HO} (a : Kp p H H1) (hq : H1 q = none) : Kp p H (upd H1 q o) := fun c u n h => by
  have z := a c u n h
  rw [upd_ne (ne_of_none z hq)]
  exact z
theorem same_new {H : Hp} {p : Addr} {o : HO} (h : H p = none) : Same H (upd H p o) := fun b u e => (upd_ne (ne_of_none e h)).trans e
theorem if01 (b : Bool) : (0 : Int) ≤ if b = true then 1 else 0 := by cases b <;> decide
theorem Pot.le {H : Hp} {p : Addr} {m n : Nat} (h : Pot H p n) (l : m ≤ n) : Pot H p m := by
  obtain ⟨o, s, c, a, b, d, e, f, g⟩ := h
  exact ⟨o, s, c, a, b, d, e, f, by omega⟩
theorem Pot.new {H : Hp} {p q : Addr} {n : Nat} {o : HO} (h : Pot H p n) (hq : H q = none) : Pot (upd H q o) p n := by
  obtain ⟨x, s, c, a, b⟩ := h
  exact ⟨x, s, c, (upd_ne (ne_of_none a hq)).trans a, b⟩
theorem Pot.ne {H : Hp} {p q : Addr} {n : Nat} (h : Pot H p n) (hq : H q = none) : p ≠ q := by
  obtain ⟨x, s, c, a, b⟩ := h
  exact ne_of_none a hq
def spTake : Sp := fun vs H Q _ => ∃ (p : Addr) (n : Nat) (u : Int), vs = [.ref p, .int u] ∧ Pot H p (n + 1) ∧ 0 < u ∧ u < 2 ^ 200 ∧
  ∀ (r : Int) (H' : Hp), 0 ≤ r → r < u → Kp p H H' → Pot H' p n → Q (.int r) H'
def spOf : Sp := fun vs H Q _ => ∃ (p a : Addr) (n : Nat) (xs : List V), vs = [.ref p, .ref a] ∧ Pot H p (n + 1) ∧ a ≠ p ∧ H a = some (.lst xs) ∧ 0 < xs.length ∧ xs.length ≤ 1000 ∧
  ∀ (v : V) (H' : Hp), v ∈ xs → Kp p H H' → Pot H' p n → Q v H'
def spPotOf (K : PySem.W.Frag) : Sp := fun vs H Q _ => ∃ (a : Addr) (ns : List Int) (k : Int), vs = [.ref a, .int k] ∧ SqL K H a (ns.map V.int) ∧ ns.length ≤ 1000 ∧ 0 ≤ k ∧ k ≤ 2 ∧
  ∀ (p : Addr) (H' : Hp), H p = none → Same H H' → Pot H' p 100000 → Q (.ref p) H'
/-- a def that stands in the module under its name, with its promise -/
def Cal (P : Program) (w : World) (K : PySem.W.Frag) (mg : Str → Option Value) (base : Heap) (k : Nat) (x : Str) (ps : List Str) (sp : Sp) : Prop :=
  ∃ (f : Addr) (fd : FuncData), FnOk P w K mg base CX0 k f fd ps sp ∧ Binds K fd ps [] ∧ mg x = some (.ref f) ∧ PySem.W.keepIn K (.ref f) = true
def CalG (P : Program) (w : World) (K : PySem.W.Frag) (mg : Str → Option Value) (base : Heap) (k : Nat) (x : Str) (ps : List Str) (sp : Sp) : Prop :=
  ∃ (f : Addr) (fd : FuncData), FnG P w K mg base CX0 k f fd ps sp ∧ Binds K fd ps [] ∧ mg x = some (.ref f) ∧ PySem.W.keepIn K (.ref f) = true
theorem hu70 {k : Nat} {A : Around} (r : Room k A) : A.units + 70 < cLine := by
  have := r.un
  omega
structure Txt (mg : Str → Option Value) : Prop where
  n_int : mg "int" = none
  n_len : mg "len" = none
  n_abs : mg "abs" = none
  n_bool : mg "bool" = none
  n_tuple : mg "tuple" = none
  n_isinstance : mg "isinstance" = none
  n_range : mg "range" = none
  n_max : mg "max" = none
  n_min : mg "min" = none
  n_all : mg "all" = none
  n_repr : mg "repr" = none
section
variable {P : Program} {w : World} {K : PySem.W.Frag} {mg : Str → Option Value} {base : Heap}
theorem ok_take {f : Addr} {fd : FuncData} (F : Fun K "_law_take" "_law_take" s__law_take f fd) (T : Txt mg) : FnOk P w K mg base CX0 1 f fd P__law_take spTake := by
  refine F.ok sc__law_take (fun vs H Q E h => ?_) (fun cdv A outer s H vs Q E hr h => ?_)
  · obtain ⟨p, n, u, rfl, _⟩ := h
    rfl
  · obtain ⟨p, n, u, rfl, ⟨o, z, c, hp, o0, z0, z1, c0, c1⟩, u0, u1, k⟩ := h
    refine ⟨_, (pss_cons (ps_if (pt_cmpR op_gt (pe_ix ix_list (pv 0) pe_int (fun _ _ => rfl)) pe_int (nomark _)) (pss_cons (ps_set (i := 2) sc__law_take.nd rfl (Or.inl rfl) (pe_op op_mod (pe_callTy call_int1 (by rfl) T.n_int (by decide +kernel) (pa_cons (pe_ix ix_list (pv 0) pe_int (fun _ _ => rfl)) pa_nil)) (pv 1)))
      (pss_cons (ps_asg (pe_op op_fdivW (pe_ix ix_list (pv 0) pe_int (fun _ _ => rfl)) (pv 1)) (pg_sub (pv 0) pe_int set_list))
      (pss_one (ps_ret (pv 2))))) pss_nil)
      (pss_cons (ps_asg (pe_op op_add (pe_ix ix_list (pv 0) pe_int (fun _ _ => rfl)) pe_int) (pg_sub (pv 0) pe_int set_list))
      (pss_cons (ps_set (i := 3) sc__law_take.nd rfl (Or.inl rfl) (pe_ix ix_list (pe_lst (pa_cons pe_int (pa_cons pe_int (pa_cons pe_int (pa_cons pe_int (pa_cons pe_int pa_nil)))))) (pe_op op_mod (pe_callTy call_int1 (by rfl) T.n_int (by decide +kernel) (pa_cons (pe_ix ix_list (pv 0) pe_int (fun _ _ => rfl)) pa_nil)) pe_int) (fun _ _ => rfl)))
      (pss_cons (ps_set (i := 4) sc__law_take.nd rfl (Or.inl rfl) (pe_op op_mod (pe_callTy call_int1 (by rfl) T.n_int (by decide +kernel) (pa_cons (pe_op op_pow (pe_op op_add (pe_op op_add (pe_ix ix_list (pv 0) pe_int (fun _ _ => rfl)) (pe_op op_mul (pe_op op_mul pe_int (pe_ix ix_list (pv 0) pe_int (fun _ _ => rfl))) (pe_ix ix_list (pv 0) pe_int (fun _ _ => rfl)))) pe_int) pe_int) pa_nil)) (pv 3)))
      (pss_one (ps_ret (pe_op op_mod (pe_callTy call_int1 (by rfl) T.n_int (by decide +kernel) (pa_cons (pe_op op_fdivW (pe_op op_mul (pv 4) (pe_op op_add (pe_op op_mod (pe_callTy call_int1 (by rfl) T.n_int (by decide +kernel) (pa_cons (pv 4) pa_nil)) pe_int) (pe_op op_mul pe_int (pe_ix ix_list (pv 0) pe_int (fun _ _ => rfl))))) pe_int) pa_nil)) (pv 1)))))))), ?_⟩
    fail "z go"
    refine rd_ite (fun h => ?_) (fun h => ?_)
    · fail "z go"
      exact k _ _ (Int.emod_nonneg _ (by omega)) (Int.emod_lt_of_pos _ u0) Kp.refl.put ⟨_, _, _, upd_same, Int.ediv_nonneg o0 (by omega), z0, z1, c0, by omega⟩
    · fail "z go"
      intro q hq
      have npq : p ≠ q := ne_of_none upd_same hq
      fail "z go"
      refine rd_ixLr upd_same (Int.emod_nonneg _ (by decide)) (Int.emod_lt_of_pos _ (by decide)) fun m hm => ?_
      obtain ⟨m, rfl, m0, m1⟩ : ∃ i : Int, m = .int i ∧ 2147483563 ≤ i ∧ i ≤ 2147483647 := by
        simp only [List.mem_cons, List.not_mem_nil, or_false] at hm
        rcases hm with rfl | rfl | rfl | rfl | rfl <;> exact ⟨_, rfl, by decide, by decide⟩
      have sq0 : 0 ≤ (c + 1) * (c + 1) := Int.mul_nonneg (by omega) (by omega)
      have sq1 : (c + 1) * (c + 1) ≤ 100000 * 100000 := Int.mul_le_mul (by omega) (by omega) (by omega) (by decide)
      have sq2 : 90001 * (c + 1) * (c + 1) = 90001 * ((c + 1) * (c + 1)) := Int.mul_assoc _ _ _
      fail "z go"
      refine k _ _ (Int.emod_nonneg _ (by omega)) (Int.emod_lt_of_pos _ u0) (Kp.refl.put.new hq) ⟨_, _, _, (upd_ne npq).trans upd_same, o0, z0, z1, by omega, by omega⟩
theorem ok_of {f : Addr} {fd : FuncData} (F : Fun K "_law_of" "_law_of" s__law_of f fd) (T : Txt mg) (c_take : Cal P w K mg base 1 "_law_take" P__law_take spTake) :
    FnOk P w K mg base CX0 2 f fd P__law_of spOf := by
  obtain ⟨f_take, fd_take, G__law_take, b__law_take, g__law_take, k__law_take⟩ := c_take
  refine F.ok sc__law_of (fun vs H Q E h => ?_) (fun cdv A outer s H vs Q E hr h => ?_)
  · obtain ⟨p, a, n, xs, rfl, _⟩ := h
    rfl
  · obtain ⟨p, a, n, xs, rfl, hp, nap, ha, l0, l1, k⟩ := h
    refine ⟨_, (pss_one (ps_ret (pe_ix ix_list (pv 1) (pe_call G__law_take (hr.mono (by decide)) rfl g__law_take k__law_take b__law_take .nil pass0 (pa_cons (pv 0) (pa_cons (pe_callB call_len_seq (by rfl) T.n_len (by decide +kernel) (pa_cons (pv 1) pa_nil)) pa_nil))) (fun _ _ => rfl)))), ?_⟩
    fail "z go"
    refine ⟨p, n, _, rfl, hp, by omega, by omega, fun r H' r0 r1 kp pt => ?_⟩
    exact rd_ixLr (kp a _ nap ha) r0 r1 fun v hv => k v H' hv kp pt
theorem ok_pot_of {f : Addr} {fd : FuncData} (F : Fun K "_law_pot_of" "_law_pot_of" s__law_pot_of f fd) (T : Txt mg) : FnOk P w K mg base CX0 1 f fd P__law_pot_of (spPotOf K) := by
  refine F.ok sc__law_pot_of (fun vs H Q E h => ?_) (fun cdv A outer s H vs Q E hr h => ?_)
  · obtain ⟨a, ns, x, rfl, _⟩ := h
    rfl
  · obtain ⟨a, ns, x, rfl, hS, few, x0, x1, k⟩ := h
    refine ⟨_, (pss_cons (ps_set (i := 2) sc__law_pot_of.nd rfl (Or.inl rfl) (pe_ifExp (pt_cmpR op_lt (pv 1) (pe_callB call_len_seq (by rfl) T.n_len (by decide +kernel) (pa_cons (pv 0) pa_nil)) (nomark _)) (pe_ix ix_list (pv 0) (pv 1) (fun _ _ => rfl)) (pe_op op_add (pe_op op_mul pe_int (pv 1)) pe_int)))
      (pss_cons (ps_set (i := 3) sc__law_pot_of.nd rfl (Or.inl rfl) (pe_op op_mul (pe_op op_mod (pe_callTy call_int1 (by rfl) T.n_int (by decide +kernel) (pa_cons (pe_callB call_abs (by rfl) T.n_abs (by decide +kernel) (pa_cons (pv 2) pa_nil)) pa_nil)) (pe_op op_powZ (pe_op op_pow pe_int pe_int) pe_int)) (pe_callTy call_int1 (by rfl) T.n_int (by decide +kernel) (pa_cons (pe_cmpR op_ge (pe_callB call_abs (by rfl) T.n_abs (by decide +kernel) (pa_cons (pv 2) pa_nil)) (pe_op op_pow pe_int pe_int) (nomark _)) pa_nil))))
      (pss_one (ps_ret (pe_lst (pa_cons (pv 3) (pa_cons (pe_op op_mod (pe_callTy call_int1 (by rfl) T.n_int (by decide +kernel) (pa_cons (pe_op op_add (pe_op op_add (pe_op op_mul (pe_op op_mod (pe_callTy call_int1 (by rfl) T.n_int (by decide +kernel) (pa_cons (pv 2) pa_nil)) pe_int) pe_int) (pe_op op_mul (pe_op op_mul pe_int (pv 1)) (pv 1))) pe_int) pa_nil)) pe_int) (pa_cons pe_int pa_nil)))))))), ?_⟩
    fail "z go"
    refine rd_lenLs hS ?_
    fail "z go"
    refine rd_ite (fun h => ?_) (fun h => ?_)
    · fail "z go"
      refine rd_ixLsr hS x0 h fun v hv => ?_
      obtain ⟨c, _, rfl⟩ := List.mem_map.mp hv
      fail "z go"
      refine rd_I (show CPowZ _ _ from ⟨by decide, by decide +kernel⟩) ?_
      fail "z go"
      refine rd_I (by decide +kernel) ?_
      fail "z go"
      intro p hp
      refine k p _ hp (same_new hp) ⟨_, _, _, upd_same, Int.mul_nonneg (Int.emod_nonneg _ (by decide +kernel)) (if01 _), Int.emod_nonneg _ (by decide), Int.emod_lt_of_pos _ (by decide), by decide, by decide⟩
    · fail "z go"
      refine rd_I (show CPowZ _ _ from ⟨by decide, by decide +kernel⟩) ?_
      fail "z go"
      refine rd_I (by decide +kernel) ?_
      fail "z go"
      intro p hp
      refine k p _ hp (same_new hp) ⟨_, _, _, upd_same, Int.mul_nonneg (Int.emod_nonneg _ (by decide +kernel)) (if01 _), Int.emod_nonneg _ (by decide), Int.emod_lt_of_pos _ (by decide), by decide, by decide⟩
/-! ### integers and kinds -/
abbrev s_is_integer : Stmt := (top 8)
abbrev N_is_integer : List Str := ["value"]
abbrev P_is_integer : List Str := ["value"]
theorem sc_is_integer : FnScope N_is_integer P_is_integer (defScope s_is_integer) := ⟨rfl, rfl, rfl, by decide +kernel, rfl, by decide +kernel, by decide +kernel⟩
abbrev s_Kind___init__ : Stmt := (inClass (top 16) 0)
abbrev N_Kind___init__ : List Str := ["self", "low", "high"]
abbrev P_Kind___init__ : List Str := ["self", "low", "high"]
theorem sc_Kind___init__ : FnScope N_Kind___init__ P_Kind___init__ (defScope s_Kind___init__) := ⟨rfl, rfl, rfl, by decide +kernel, rfl, by decide +kernel, by decide +kernel⟩

/-- a plain value: none, a bool, an int, a text, a list, a tuple, a dict -/
inductive Plain (H : Hp) : V → Prop where
  | non : Plain H .non
  | bl (b : Bool) : Plain H (.bl b)
  | int (i : Int) : Plain H (.int i)
  | str (x : Str) : Plain H (.str x)
  | lst {a : Addr} {xs : List V} (e : H a = some (.lst xs)) : Plain H (.ref a)
  | tup {a : Addr} {xs : List V} (e : H a = some (.tup xs)) : Plain H (.ref a)
  | dK {a : Addr} {kvs : List (Key × V)} (e : H a = some (.dK kvs)) : Plain H (.ref a)
def isI : V → Bool
  | .int _ => true
  | _ => false
/-- isinstance of a plain value and a built-in class -/
theorem rd_isi {K : PySem.W.Frag} {H : Hp} {Q : VK} {v : V} {t n : String} {b : Bool} (ty : TyX K H v (.type t)) (e : kitB t n = some b) (k : Q (.bl b) H) : rIsi K [v, .ty n] H Q :=
  ⟨v, .ty n, _, _, b, rfl, .ty n, ty, kit_ty e, k⟩
theorem rd_isiP {K : PySem.W.Frag} {H : Hp} {Q : VK} {v : V} (p : Plain H v) (k1 : ∀ b : Bool, (b = true → isI v = true ∨ ∃ c, v = .bl c) → (isI v = true → b = true) → (∀ c, v = .bl c → b = true) → Q (.bl b) H) : rIsi K [v, .ty "int"] H Q := by
  cases p with
  | non => exact rd_isi (.base .non) (by decide +kernel) (k1 false (fun z => nomatch z) (fun z => nomatch z) fun c z => nomatch z)
  | bl b => exact rd_isi (.base (.bl b)) (by decide +kernel) (k1 true (fun _ => .inr ⟨b, rfl⟩) (fun _ => rfl) fun _ _ => rfl)
  | int i => exact rd_isi (.base (.int i)) (by decide +kernel) (k1 true (fun _ => .inl rfl) (fun _ => rfl) fun _ _ => rfl)
  | str x => exact rd_isi (.base (.str x)) (by decide +kernel) (k1 false (fun z => nomatch z) (fun z => nomatch z) fun c z => nomatch z)
  | lst e => exact rd_isi (.base (.lst e)) (by decide +kernel) (k1 false (fun z => nomatch z) (fun z => nomatch z) fun c z => nomatch z)
  | tup e => exact rd_isi (.base (.tup e)) (by decide +kernel) (k1 false (fun z => nomatch z) (fun z => nomatch z) fun c z => nomatch z)
  | dK e => exact rd_isi (.base (.dK e)) (by decide +kernel) (k1 false (fun z => nomatch z) (fun z => nomatch z) fun c z => nomatch z)
theorem rd_isiB {K : PySem.W.Frag} {H : Hp} {Q : VK} {v : V} (p : Plain H v) (k1 : ∀ b : Bool, (b = true ↔ ∃ c, v = .bl c) → Q (.bl b) H) : rIsi K [v, .ty "bool"] H Q := by
  cases p with
  | non => exact rd_isi (.base .non) (by decide +kernel) (k1 false ⟨fun z => Bool.noConfusion z, fun ⟨c, z⟩ => V.noConfusion z⟩)
  | bl b => exact rd_isi (.base (.bl b)) (by decide +kernel) (k1 true ⟨fun _ => ⟨b, rfl⟩, fun _ => rfl⟩)
  | int i => exact rd_isi (.base (.int i)) (by decide +kernel) (k1 false ⟨fun z => Bool.noConfusion z, fun ⟨c, z⟩ => V.noConfusion z⟩)
  | str x => exact rd_isi (.base (.str x)) (by decide +kernel) (k1 false ⟨fun z => Bool.noConfusion z, fun ⟨c, z⟩ => V.noConfusion z⟩)
  | lst e => exact rd_isi (.base (.lst e)) (by decide +kernel) (k1 false ⟨fun z => Bool.noConfusion z, fun ⟨c, z⟩ => V.noConfusion z⟩)
  | tup e => exact rd_isi (.base (.tup e)) (by decide +kernel) (k1 false ⟨fun z => Bool.noConfusion z, fun ⟨c, z⟩ => V.noConfusion z⟩)
  | dK e => exact rd_isi (.base (.dK e)) (by decide +kernel) (k1 false ⟨fun z => Bool.noConfusion z, fun ⟨c, z⟩ => V.noConfusion z⟩)
def spIsInt : Sp := fun vs H Q _ => ∃ v, vs = [v] ∧ Plain H v ∧ Q (.bl (isI v)) H
theorem ok_is_integer {f : Addr} {fd : FuncData} (F : Fun K "is_integer" "is_integer" s_is_integer f fd) (T : Txt mg) : FnOk P w K mg base CX0 1 f fd P_is_integer spIsInt := by
  refine F.ok sc_is_integer (fun vs H Q E h => ?_) (fun cdv A outer s H vs Q E hr h => ?_)
  · obtain ⟨v, rfl, _⟩ := h
    rfl
  · obtain ⟨v, rfl, p, k⟩ := h
    refine ⟨_, (pss_one (ps_ret (pe_and (pe_callB call_isi (by rfl) T.n_isinstance (by decide +kernel) (pa_cons (pv 0) (pa_cons (pe_bltn (v := .ty "int") (by rfl) T.n_int (by decide +kernel) rfl) pa_nil))) (pe_one (pe_not (pe_callB call_isi (by rfl) T.n_isinstance (by decide +kernel) (pa_cons (pv 0) (pa_cons (pe_bltn (v := .ty "bool") (by rfl) T.n_bool (by decide +kernel) rfl) pa_nil)))))))), ?_⟩
    fail "z go"
    refine rd_isiP p fun b h1 h2 h3 => ?_
    fail "z go"
    refine rd_iteB (fun hb => ?_) (fun hb => ?_)
    · fail "z go"
      refine rd_isiB p fun c hc => ?_
      fail "z go"
      show Q (.bl (!c)) H
      have e : (!c) = isI v := by
        rcases h1 hb with z | z
        · rw [z]
          cases c with
          | false => rfl
          | true =>
            obtain ⟨d, rfl⟩ := hc.mp rfl
            cases z
        · rw [hc.mpr z]
          obtain ⟨d, rfl⟩ := z
          rfl
      rw [e]
      exact k
    · show Q (.bl false) H
      have e : isI v = false := by
        cases q : isI v with
        | false => rfl
        | true =>
          rw [h2 q] at hb
          cases hb
      rw [← e]
      exact k
/-- the fields of a kind -/
def kf (lo hi : Int) : List (Str × V) := putF "size" (.int (hi - lo + 1)) (putF "high" (.int hi) (putF "low" (.int lo) []))
theorem kf_low (lo hi : Int) : (kf lo hi).lookup ("low" : Str) = some (.int lo) := by
  unfold kf
  rw [lookup_putF, if_neg (by decide +kernel), lookup_putF, if_neg (by decide +kernel), lookup_putF, if_pos rfl]
theorem kf_high (lo hi : Int) : (kf lo hi).lookup ("high" : Str) = some (.int hi) := by
  unfold kf
  rw [lookup_putF, if_neg (by decide +kernel), lookup_putF, if_pos rfl]
theorem kf_size (lo hi : Int) : (kf lo hi).lookup ("size" : Str) = some (.int (hi - lo + 1)) := by
  unfold kf
  rw [lookup_putF, if_pos rfl]
structure KindT (K : PySem.W.Frag) (C : Addr) : Prop where
  cl : Cls K C
  n_low : NoAttr K C "low"
  n_high : NoAttr K C "high"
  n_size : NoAttr K C "size"
def IsKind (C : Addr) (H : Hp) (a : Addr) (lo hi : Int) : Prop := ∃ dx, H a = some (.ins C dx (kf lo hi))
theorem IsKind.same {C a : Addr} {H H' : Hp} {lo hi : Int} (h : IsKind C H a lo hi) (s : Same H H') : IsKind C H' a lo hi := by
  obtain ⟨dx, e⟩ := h
  exact ⟨dx, s _ _ e⟩
def spKind (C : Addr) : Sp := fun vs H Q _ => ∃ (p dx : Addr) (lo hi : Int), vs = [.ref p, .int lo, .int hi] ∧ lo ≤ 0 ∧ 0 ≤ hi ∧ H p = some (.ins C dx []) ∧
  ∀ H' : Hp, Kp p H H' → H' p = some (.ins C dx (kf lo hi)) → Q .non H'
def CalK (P : Program) (w : World) (K : PySem.W.Frag) (mg : Str → Option Value) (base : Heap) (C : Addr) : Prop :=
  ∃ (f : Addr) (fd : FuncData), Mk K C f ∧ FnOk P w K mg base CX0 2 f fd P_Kind___init__ (spKind C) ∧ Binds K fd P_Kind___init__ [] ∧ mg "Kind" = some (.ref C)
theorem ok_Kind {f C : Addr} {fd : FuncData} (F : Fun K "__init__" "Kind.__init__" s_Kind___init__ f fd) (KT : KindT K C) (c_is : Cal P w K mg base 1 "is_integer" P_is_integer spIsInt) :
    FnOk P w K mg base CX0 2 f fd P_Kind___init__ (spKind C) := by
  obtain ⟨f_is, fd_is, G_is_integer, b_is_integer, g_is_integer, k_is_integer⟩ := c_is
  refine F.ok sc_Kind___init__ (fun vs H Q E h => ?_) (fun cdv A outer s H vs Q E hr h => ?_)
  · obtain ⟨p, dx, lo, hi, rfl, _⟩ := h
    rfl
  · obtain ⟨p, dx, lo, hi, rfl, h1, h2, hp, k⟩ := h
    refine ⟨_, (pss_cons (ps_if (PW.pt (pw_or (pt_not (pt_val (pe_call G_is_integer (hr.mono (by decide)) rfl g_is_integer k_is_integer b_is_integer .nil pass0 (pa_cons (pv 1) pa_nil)))) (pw_or (pt_not (pt_val (pe_call G_is_integer (hr.mono (by decide)) rfl g_is_integer k_is_integer b_is_integer .nil pass0 (pa_cons (pv 2) pa_nil)))) (pw_or1 (pt_not (pt_chain op_le op_le (pv 1) pe_int (pv 2))))))) (pss_one ps_never) pss_nil)
      (pss_cons (ps_fld (pv 0) (pv 1) rfl)
      (pss_cons (ps_fld (pv 0) (pv 2) rfl)
      (pss_one (ps_fld (pv 0) (pe_op op_add (pe_op op_sub (pv 2) (pv 1)) pe_int) rfl))))), ?_⟩
    fail "z go"
    refine ⟨_, rfl, .int lo, ?_⟩
    fail "z go"
    refine iteF ?_
    fail "z go"
    refine ⟨_, rfl, .int hi, ?_⟩
    fail "z go"
    refine iteF ?_
    fail "z go"
    rw [decide_eq_true h1]
    refine iteT ?_
    fail "z go"
    rw [decide_eq_true h2]
    refine iteF ?_
    fail "z go"
    refine rd_sfldI hp KT.cl KT.n_low (by decide) ?_
    fail "z go"
    have l1 := length_putF "low" (.int lo) []
    refine rd_sfldI upd_same KT.cl KT.n_high (by show _ < 1000; simp only [List.length_nil] at l1; omega) ?_
    fail "z go"
    have l2 := length_putF "high" (.int hi) (putF "low" (.int lo) [])
    refine rd_sfldI upd_same KT.cl KT.n_size (by show _ < 1000; simp only [List.length_nil] at l1; omega) ?_
    exact k _ Kp.refl.put.put.put upd_same
/-- Kind(low, high) where it is called: a new kind, all else as it was -/
theorem rd_Kind {C : Addr} {H : Hp} {E : XK} {lo hi : Int} {R : Addr → Hp → Prop} (h1 : lo ≤ 0) (h2 : 0 ≤ hi) (k : ∀ (a : Addr) (H' : Hp), H a = none → Same H H' → IsKind C H' a lo hi → R a H') :
    ∀ x dx, H x = none → H dx = none → dx ≠ x → spKind C (.ref x :: ([V.int lo, V.int hi] ++ [])) (upd (upd H dx (.own x)) x (.ins C dx [])) (fun v H2 => v = .non ∧ R x H2) E := by
  intro x dx nx nd ne
  refine ⟨x, dx, lo, hi, rfl, h1, h2, upd_same, fun H' kp hx => ⟨rfl, k x H' nx (fun b o e => ?_) ⟨dx, hx⟩⟩⟩
  have n1 : b ≠ x := ne_of_none e nx
  exact kp b o n1 ((upd_ne n1).trans ((upd_ne (ne_of_none e nd)).trans e))
end
/-! ### small data, its text -/
structure Sm (k n : Nat) (d : PyData) : Prop where
  sh : d.showable = true
  nd : d.hasDict = false
  cl : d.canLay0 = true
  ls : d.leavesShort 250 = true
  wt : d.weight ≤ n
  dp : d.depth ≤ k
structure SmAll (k n : Nat) (ds : List PyData) : Prop where
  sh : PyData.showableAll ds = true
  nd : PyData.hasDictAll ds = false
  cl : PyData.canLayAll0 ds = true
  ls : PyData.leavesShortAll 250 ds = true
  wt : PyData.weightAll ds ≤ n
  dp : PyData.depthAll ds ≤ k
theorem sm_none {k : Nat} : Sm k 0 .none := ⟨by simp [PyData.showable], by simp [PyData.hasDict], by simp [PyData.canLay0], by simp [PyData.leavesShort], by simp [PyData.weight], by simp [PyData.depth]⟩
theorem sm_bool {k : Nat} (b : Bool) : Sm k 0 (.bool b) := ⟨by simp [PyData.showable], by simp [PyData.hasDict], by simp [PyData.canLay0], by simp [PyData.leavesShort], by simp [PyData.weight], by simp [PyData.depth]⟩
theorem log_of {i : Int} (h1 : -(2 ^ 200) < i) (h2 : i < 2 ^ 200) : i.natAbs.log2 < 200 := PySem.Flt.log2_lt_of (by decide) (by omega)
theorem sm_int {k : Nat} {i : Int} (h1 : -(2 ^ 200) < i) (h2 : i < 2 ^ 200) : Sm k 201 (.int i) := by
  have l := log_of h1 h2
  have t := int_text_length_le (k := 200) (by decide) l
  refine ⟨by simp only [PyData.showable, decide_eq_true_eq]; omega, by simp [PyData.hasDict], by simp [PyData.canLay0], ?_, ?_, by simp [PyData.depth]⟩
  · simp only [PyData.leavesShort, decide_eq_true_eq]
    show (Str.ofString (toString i)).length ≤ 250
    rw [PySem.ofString_length]
    omega
  · simp only [PyData.weight]
    split <;> omega
theorem sm_nil {k : Nat} : SmAll k 0 [] := ⟨by simp [PyData.showableAll], by simp [PyData.hasDictAll], by simp [PyData.canLayAll0], by simp [PyData.leavesShortAll], by simp [PyData.weightAll], by simp [PyData.depthAll]⟩
theorem sm_cons {k a b : Nat} {d : PyData} {ds : List PyData} (h : Sm k a d) (t : SmAll k b ds) : SmAll k (a + 1 + b) (d :: ds) := by
  refine ⟨by simp [PyData.showableAll, h.sh, t.sh], by simp [PyData.hasDictAll, h.nd, t.nd], by simp [PyData.canLayAll0, h.cl, t.cl], by simp [PyData.leavesShortAll, h.ls, t.ls], ?_, ?_⟩
  · have := h.wt
    have := t.wt
    simp only [PyData.weightAll]
    omega
  · have := h.dp
    have := t.dp
    simp only [PyData.depthAll]
    omega
theorem sm_list {k n : Nat} {ds : List PyData} (t : SmAll k n ds) : Sm (k + 1) n (.list ds) :=
  ⟨by simp [PyData.showable, t.sh], by simp [PyData.hasDict, t.nd], by simp [PyData.canLay0, t.cl], by simp [PyData.leavesShort, t.ls], by simp [PyData.weight, t.wt], by have := t.dp; simp only [PyData.depth]; omega⟩
theorem sm_tup {k n : Nat} {ds : List PyData} (t : SmAll k n ds) : Sm (k + 1) n (.tuple ds) :=
  ⟨by simp [PyData.showable, t.sh], by simp [PyData.hasDict, t.nd], by simp [PyData.canLay0, t.cl], by simp [PyData.leavesShort, t.ls], by simp [PyData.weight, t.wt], by have := t.dp; simp only [PyData.depth]; omega⟩
theorem Sm.text {k n : Nat} {d : PyData} (h : Sm k n d) (hn : n ≤ 50000) : d.shown.length ≤ sizeLine := by
  have e := PyData.shown_le 250 (by decide) d h.ls
  have w := h.wt
  rw [sizeLine_eq]
  omega
theorem Sm.shaped {k n : Nat} {d : PyData} (h : Sm k n d) (hk : k ≤ 60) : SeqAt.shaped d = true := by
  have := h.dp
  unfold SeqAt.shaped
  rw [h.cl, Bool.true_and]
  exact decide_eq_true (by omega)
theorem rd_repr {K : PySem.W.Frag} {H : Hp} {Q : VK} {v : V} {d : PyData} {k n : Nat} (h : Dp K H v d) (s : Sm k n d) (hk : k ≤ 60) (hn : n ≤ 50000) (q : Q (.str d.shown) H) : rReprD K [v] H Q := by
  refine ⟨v, d, rfl, h, s.sh, s.nd, by have := s.dp; omega, s.text hn, fun i e => ?_, q⟩
  subst e
  cases h
  have z := s.sh
  simp only [PyData.showable, decide_eq_true_eq] at z
  exact z
theorem rd_neD {K : PySem.W.Frag} {H : Hp} {Q : VK} {x y : V} {d e : PyData} {k n k' n' : Nat} (h : Dp K H x d) (h' : Dp K H y e) (s : Sm k n d) (s' : Sm k' n' e) (hk : k ≤ 60) (hk' : k' ≤ 60) (q : Q (.bl (!PyData.eqv d e)) H) : rNeD K x y H Q :=
  ⟨d, e, h, h', s.shaped hk, s'.shaped hk', q⟩
theorem rd_eqD {K : PySem.W.Frag} {H : Hp} {Q : VK} {x y : V} {d e : PyData} {k n k' n' : Nat} (h : Dp K H x d) (h' : Dp K H y e) (s : Sm k n d) (s' : Sm k' n' e) (hk : k ≤ 60) (hk' : k' ≤ 60) (q : Q (.bl (PyData.eqv d e)) H) : rEqD K x y H Q :=
  ⟨d, e, h, h', s.shaped hk, s'.shaped hk', q⟩
theorem Sm.up {k n k' n' : Nat} {d : PyData} (h : Sm k n d) (hk : k ≤ k') (hn : n ≤ n') : Sm k' n' d := ⟨h.sh, h.nd, h.cl, h.ls, Nat.le_trans h.wt hn, Nat.le_trans h.dp hk⟩
section
variable {P : Program} {w : World} {K : PySem.W.Frag} {mg : Str → Option Value} {base : Heap}
/-! ### the comparisons of kinds, their meet and join -/
abbrev s_lesser : Stmt := (top 10)
abbrev N_lesser : List Str := ["one", "other"]
abbrev P_lesser : List Str := ["one", "other"]
theorem sc_lesser : FnScope N_lesser P_lesser (defScope s_lesser) := ⟨rfl, rfl, rfl, by decide +kernel, rfl, by decide +kernel, by decide +kernel⟩
abbrev s_greater : Stmt := (top 11)
abbrev N_greater : List Str := ["one", "other"]
abbrev P_greater : List Str := ["one", "other"]
theorem sc_greater : FnScope N_greater P_greater (defScope s_greater) := ⟨rfl, rfl, rfl, by decide +kernel, rfl, by decide +kernel, by decide +kernel⟩
abbrev s_Kind___eq__ : Stmt := (inClass (top 16) 7)
abbrev N_Kind___eq__ : List Str := ["self", "other"]
abbrev P_Kind___eq__ : List Str := ["self", "other"]
theorem sc_Kind___eq__ : FnScope N_Kind___eq__ P_Kind___eq__ (defScope s_Kind___eq__) := ⟨rfl, rfl, rfl, by decide +kernel, rfl, by decide +kernel, by decide +kernel⟩
abbrev s_Kind___le__ : Stmt := (inClass (top 16) 8)
abbrev N_Kind___le__ : List Str := ["self", "other"]
abbrev P_Kind___le__ : List Str := ["self", "other"]
theorem sc_Kind___le__ : FnScope N_Kind___le__ P_Kind___le__ (defScope s_Kind___le__) := ⟨rfl, rfl, rfl, by decide +kernel, rfl, by decide +kernel, by decide +kernel⟩
abbrev s_Kind___lt__ : Stmt := (inClass (top 16) 9)
abbrev N_Kind___lt__ : List Str := ["self", "other"]
abbrev P_Kind___lt__ : List Str := ["self", "other"]
theorem sc_Kind___lt__ : FnScope N_Kind___lt__ P_Kind___lt__ (defScope s_Kind___lt__) := ⟨rfl, rfl, rfl, by decide +kernel, rfl, by decide +kernel, by decide +kernel⟩
abbrev s_Kind___ge__ : Stmt := (inClass (top 16) 10)
abbrev N_Kind___ge__ : List Str := ["self", "other"]
abbrev P_Kind___ge__ : List Str := ["self", "other"]
theorem sc_Kind___ge__ : FnScope N_Kind___ge__ P_Kind___ge__ (defScope s_Kind___ge__) := ⟨rfl, rfl, rfl, by decide +kernel, rfl, by decide +kernel, by decide +kernel⟩
abbrev s_Kind___gt__ : Stmt := (inClass (top 16) 11)
abbrev N_Kind___gt__ : List Str := ["self", "other"]
abbrev P_Kind___gt__ : List Str := ["self", "other"]
theorem sc_Kind___gt__ : FnScope N_Kind___gt__ P_Kind___gt__ (defScope s_Kind___gt__) := ⟨rfl, rfl, rfl, by decide +kernel, rfl, by decide +kernel, by decide +kernel⟩
abbrev s_Kind___and__ : Stmt := (inClass (top 16) 12)
abbrev N_Kind___and__ : List Str := ["self", "other"]
abbrev P_Kind___and__ : List Str := ["self", "other"]
theorem sc_Kind___and__ : FnScope N_Kind___and__ P_Kind___and__ (defScope s_Kind___and__) := ⟨rfl, rfl, rfl, by decide +kernel, rfl, by decide +kernel, by decide +kernel⟩
abbrev s_Kind___or__ : Stmt := (inClass (top 16) 13)
abbrev N_Kind___or__ : List Str := ["self", "other"]
abbrev P_Kind___or__ : List Str := ["self", "other"]
theorem sc_Kind___or__ : FnScope N_Kind___or__ P_Kind___or__ (defScope s_Kind___or__) := ⟨rfl, rfl, rfl, by decide +kernel, rfl, by decide +kernel, by decide +kernel⟩

structure KindO (K : PySem.W.Frag) (C : Addr) : Prop where
  ic : C8.InsC K C
  sf : PySem.W.selfFirst K C = true
  ne : PySem.W.findIn K (.ref C) "__ne__" = some (some (.builtin "object.__ne__"))
theorem lt_units {n : Nat} (h : n + 64 < cLine) : n + 1 < cLine := by omega
theorem rd_isOwn {K : PySem.W.Frag} {H : Hp} {Q : VK} {C a : Addr} {lo hi : Int} (o : KindO K C) (h : IsKind C H a lo hi) (k : Q (.bl true) H) : rIsi K [.ref a, .ref C] H Q := by
  obtain ⟨dx, e⟩ := h
  exact ⟨.ref a, .ref C, _, _, true, rfl, .own C, .base (.ins e o.ic.cl o.ic.ha o.ic.hn o.ic.htk o.ic.hm), o.ic.me, k⟩
theorem rd_own {C a b : Addr} {sp : Sp} {E : XK} {H : Hp} {Q : VK} {lo hi lo2 hi2 : Int} (h : IsKind C H a lo hi) (h2 : IsKind C H b lo2 hi2) (k : sp [.ref a, .ref b] H Q E) : rOwnI C sp E (.ref a) (.ref b) H Q := by
  obtain ⟨dx, e⟩ := h
  obtain ⟨dy, e2⟩ := h2
  exact ⟨a, dx, _, b, dy, _, rfl, rfl, e, e2, k⟩
theorem rd_ownNe {C a b : Addr} {sp : Sp} {E : XK} {H : Hp} {Q : VK} {lo hi lo2 hi2 : Int} (h : IsKind C H a lo hi) (h2 : IsKind C H b lo2 hi2) (k : sp [.ref a, .ref b] H (fun z H' => ∃ c, z = .bl c ∧ Q (.bl (!c)) H') E) : rNeI C sp E (.ref a) (.ref b) H Q := by
  obtain ⟨dx, e⟩ := h
  obtain ⟨dy, e2⟩ := h2
  exact ⟨a, dx, _, b, dy, _, rfl, rfl, e, e2, k⟩
theorem rd_both {c d : Bool} {σ : L2.St} {H : Hp} {Q : VK} {tb : TE} (h : ∀ Q' : VK, Q' (.bl d) H → tb σ H Q') (k : Q (.bl (c && d)) H) : if c = true then tb σ H Q else Q (.bl false) H := by
  cases c with
  | true => exact iteT (h Q k)
  | false => exact iteF k
theorem dec_int {a b : Int} : decide (V.int a = V.int b) = decide (a = b) := by
  by_cases q : a = b
  · rw [q]
    simp
  · rw [decide_eq_false q, decide_eq_false fun z => q (V.int.inj z)]
def CalN (P : Program) (w : World) (K : PySem.W.Frag) (mg : Str → Option Value) (base : Heap) (C : Addr) (k : Nat) (m : Str) (ps : List Str) (sp : Sp) : Prop :=
  ∃ (f : Addr) (fd : FuncData), Meth K C m f ∧ FnOk P w K mg base CX0 k f fd ps sp ∧ Binds K fd ps []
def leB (a b c d : Int) : Bool := decide (c ≤ a) && decide (b ≤ d)
def eqB (a b c d : Int) : Bool := decide (a = c) && decide (b = d)
def spCmp (C : Addr) (R : Int → Int → Int → Int → Bool) : Sp := fun vs H Q _ => ∃ (p q : Addr) (a b c d : Int), vs = [.ref p, .ref q] ∧ IsKind C H p a b ∧ IsKind C H q c d ∧ Q (.bl (R a b c d)) H
def spMin : Sp := fun vs H Q _ => ∃ a b : Int, vs = [.int a, .int b] ∧ Q (.int (if a ≤ b then a else b)) H
def spMax : Sp := fun vs H Q _ => ∃ a b : Int, vs = [.int a, .int b] ∧ Q (.int (if a ≥ b then a else b)) H
theorem ok_lesser {f : Addr} {fd : FuncData} (F : Fun K "lesser" "lesser" s_lesser f fd) : FnOk P w K mg base CX0 1 f fd P_lesser spMin := by
  refine F.ok sc_lesser (fun vs H Q E h => ?_) (fun cdv A outer s H vs Q E hr h => ?_)
  · obtain ⟨a, b, rfl, _⟩ := h
    rfl
  · obtain ⟨a, b, rfl, k⟩ := h
    refine ⟨_, (pss_one (ps_ret (pe_ifExp (pt_cmpR op_le (pv 0) (pv 1) (nomark _)) (pv 0) (pv 1)))), ?_⟩
    fail "z run"
    refine rd_ite (fun c => ?_) (fun c => ?_)
    · fail "z run"
      rw [if_pos c] at k
      exact k
    · fail "z run"
      rw [if_neg c] at k
      exact k
theorem ok_greater {f : Addr} {fd : FuncData} (F : Fun K "greater" "greater" s_greater f fd) : FnOk P w K mg base CX0 1 f fd P_greater spMax := by
  refine F.ok sc_greater (fun vs H Q E h => ?_) (fun cdv A outer s H vs Q E hr h => ?_)
  · obtain ⟨a, b, rfl, _⟩ := h
    rfl
  · obtain ⟨a, b, rfl, k⟩ := h
    refine ⟨_, (pss_one (ps_ret (pe_ifExp (pt_cmpR op_ge (pv 0) (pv 1) (nomark _)) (pv 0) (pv 1)))), ?_⟩
    fail "z run"
    refine rd_ite (fun c => ?_) (fun c => ?_)
    · fail "z run"
      rw [if_pos c] at k
      exact k
    · fail "z run"
      rw [if_neg c] at k
      exact k
theorem ok_eq {f C : Addr} {fd : FuncData} (F : Fun K "__eq__" "Kind.__eq__" s_Kind___eq__ f fd) (T : Txt mg) (KT : KindT K C) (KO : KindO K C) (g_Kind : mg "Kind" = some (.ref C)) : FnOk P w K mg base CX0 1 f fd P_Kind___eq__ (spCmp C eqB) := by
  refine F.ok sc_Kind___eq__ (fun vs H Q E h => ?_) (fun cdv A outer s H vs Q E hr h => ?_)
  · obtain ⟨p, q, a, b, c, d, rfl, _⟩ := h
    rfl
  · obtain ⟨p, q, a, b, c, d, rfl, hp, hq, k⟩ := h
    obtain ⟨dx, ep⟩ := id hp
    obtain ⟨dy, eq⟩ := id hq
    refine ⟨_, (pss_one (ps_ret (pe_and (pe_callB call_isi (by rfl) T.n_isinstance (by decide +kernel) (pa_cons (pv 1) (pa_cons (pe_glob (v := .ref C) rfl g_Kind rfl) pa_nil))) (pe_and (pe_cmpR op_eq (pe_fld (pv 0) rfl) (pe_fld (pv 1) rfl) (nomark _)) (pe_one (pe_cmpR op_eq (pe_fld (pv 0) rfl) (pe_fld (pv 1) rfl) (nomark _))))))), ?_⟩
    fail "z run"
    refine rd_isOwn KO hq ?_
    fail "z run"
    refine ⟨_, _, _, _, _, rfl, ep, KT.cl, KT.n_low, kf_low _ _, ?_⟩
    fail "z run"
    refine ⟨_, _, _, _, _, rfl, eq, KT.cl, KT.n_low, kf_low _ _, ?_⟩
    fail "z run"
    refine rd_both (d := decide (b = d)) (fun Q' k' => ?_) ?_
    · fail "z run"
      refine ⟨_, _, _, _, _, rfl, ep, KT.cl, KT.n_high, kf_high _ _, ?_⟩
      fail "z run"
      refine ⟨_, _, _, _, _, rfl, eq, KT.cl, KT.n_high, kf_high _ _, ?_⟩
      fail "z run"
      rw [dec_int]
      exact k'
    · rw [dec_int]
      exact k
theorem ok_le {f C : Addr} {fd : FuncData} (F : Fun K "__le__" "Kind.__le__" s_Kind___le__ f fd) (T : Txt mg) (KT : KindT K C) (KO : KindO K C) (g_Kind : mg "Kind" = some (.ref C)) : FnOk P w K mg base CX0 1 f fd P_Kind___le__ (spCmp C leB) := by
  refine F.ok sc_Kind___le__ (fun vs H Q E h => ?_) (fun cdv A outer s H vs Q E hr h => ?_)
  · obtain ⟨p, q, a, b, c, d, rfl, _⟩ := h
    rfl
  · obtain ⟨p, q, a, b, c, d, rfl, hp, hq, k⟩ := h
    obtain ⟨dx, ep⟩ := id hp
    obtain ⟨dy, eq⟩ := id hq
    refine ⟨_, (pss_cons (ps_if (pt_not (pt_val (pe_callB call_isi (by rfl) T.n_isinstance (by decide +kernel) (pa_cons (pv 1) (pa_cons (pe_glob (v := .ref C) rfl g_Kind rfl) pa_nil))))) (pss_one ps_never) pss_nil)
      (pss_one (ps_ret (pe_and (pe_cmpR op_le (pe_fld (pv 1) rfl) (pe_fld (pv 0) rfl) (nomark _)) (pe_one (pe_cmpR op_le (pe_fld (pv 0) rfl) (pe_fld (pv 1) rfl) (nomark _))))))), ?_⟩
    fail "z run"
    refine rd_isOwn KO hq ?_
    fail "z run"
    refine iteF ?_
    fail "z run"
    refine ⟨_, _, _, _, _, rfl, eq, KT.cl, KT.n_low, kf_low _ _, ?_⟩
    fail "z run"
    refine ⟨_, _, _, _, _, rfl, ep, KT.cl, KT.n_low, kf_low _ _, ?_⟩
    fail "z run"
    refine rd_both (d := decide (b ≤ d)) (fun Q' k' => ?_) k
    fail "z run"
    refine ⟨_, _, _, _, _, rfl, ep, KT.cl, KT.n_high, kf_high _ _, ?_⟩
    fail "z run"
    refine ⟨_, _, _, _, _, rfl, eq, KT.cl, KT.n_high, kf_high _ _, ?_⟩
    fail "z run"
    exact k'
def ltB (a b c d : Int) : Bool := leB a b c d && !eqB a b c d
theorem ok_lt {f C : Addr} {fd : FuncData} (F : Fun K "__lt__" "Kind.__lt__" s_Kind___lt__ f fd) (T : Txt mg) (KT : KindT K C) (KO : KindO K C) (g_Kind : mg "Kind" = some (.ref C)) (c_le : CalN P w K mg base C 1 "__le__" P_Kind___le__ (spCmp C leB))
    (c_eq : CalN P w K mg base C 1 "__eq__" P_Kind___eq__ (spCmp C eqB)) : FnOk P w K mg base CX0 2 f fd P_Kind___lt__ (spCmp C ltB) := by
  obtain ⟨f_le, fd_le, o___le__, G_Kind___le__, b_Kind___le__⟩ := c_le
  obtain ⟨f_eq, fd_eq, o___eq__, G_Kind___eq__, b_Kind___eq__⟩ := c_eq
  refine F.ok sc_Kind___lt__ (fun vs H Q E h => ?_) (fun cdv A outer s H vs Q E hr h => ?_)
  · obtain ⟨p, q, a, b, c, d, rfl, _⟩ := h
    rfl
  · obtain ⟨p, q, a, b, c, d, rfl, hp, hq, k⟩ := h
    refine ⟨_, (pss_cons (ps_if (pt_not (pt_val (pe_callB call_isi (by rfl) T.n_isinstance (by decide +kernel) (pa_cons (pv 1) (pa_cons (pe_glob (v := .ref C) rfl g_Kind rfl) pa_nil))))) (pss_one ps_never) pss_nil)
      (pss_one (ps_ret (pe_and (pe_cmpR (op_cmpI (fun _ _ => rfl) o___le__.at_ o___le__.fn G_Kind___le__ (hr.mono (by decide)) b_Kind___le__ pass0) (pv 0) (pv 1) (nomark _)) (pe_one (pe_not (pe_cmpR (op_cmpI (fun _ _ => rfl) o___eq__.at_ o___eq__.fn G_Kind___eq__ (hr.mono (by decide)) b_Kind___eq__ pass0) (pv 0) (pv 1) (nomark _)))))))), ?_⟩
    fail "z run"
    refine rd_isOwn KO hq ?_
    fail "z run"
    refine iteF ?_
    fail "z run"
    refine rd_own hp hq ⟨p, q, a, b, c, d, rfl, hp, hq, ?_⟩
    fail "z run"
    refine rd_both (d := !eqB a b c d) (fun Q' k' => ?_) k
    fail "z run"
    refine rd_own hp hq ⟨p, q, a, b, c, d, rfl, hp, hq, ?_⟩
    fail "z run"
    exact k'
def geB (a b c d : Int) : Bool := leB c d a b
def gtB (a b c d : Int) : Bool := ltB c d a b
theorem ok_ge {f C : Addr} {fd : FuncData} (F : Fun K "__ge__" "Kind.__ge__" s_Kind___ge__ f fd) (T : Txt mg) (KT : KindT K C) (KO : KindO K C) (g_Kind : mg "Kind" = some (.ref C)) (c_le : CalN P w K mg base C 1 "__le__" P_Kind___le__ (spCmp C leB)) :
    FnOk P w K mg base CX0 2 f fd P_Kind___ge__ (spCmp C geB) := by
  obtain ⟨f_le, fd_le, o___le__, G_Kind___le__, b_Kind___le__⟩ := c_le
  refine F.ok sc_Kind___ge__ (fun vs H Q E h => ?_) (fun cdv A outer s H vs Q E hr h => ?_)
  · obtain ⟨p, q, a, b, c, d, rfl, _⟩ := h
    rfl
  · obtain ⟨p, q, a, b, c, d, rfl, hp, hq, k⟩ := h
    refine ⟨_, (pss_cons (ps_if (pt_not (pt_val (pe_callB call_isi (by rfl) T.n_isinstance (by decide +kernel) (pa_cons (pv 1) (pa_cons (pe_glob (v := .ref C) rfl g_Kind rfl) pa_nil))))) (pss_one ps_never) pss_nil)
      (pss_one (ps_ret (pe_cmpR (op_cmpI (fun _ _ => rfl) o___le__.at_ o___le__.fn G_Kind___le__ (hr.mono (by decide)) b_Kind___le__ pass0) (pv 1) (pv 0) (nomark _))))), ?_⟩
    fail "z run"
    refine rd_isOwn KO hq ?_
    fail "z run"
    refine iteF ?_
    fail "z run"
    exact rd_own hq hp ⟨q, p, c, d, a, b, rfl, hq, hp, k⟩
theorem ok_gt {f C : Addr} {fd : FuncData} (F : Fun K "__gt__" "Kind.__gt__" s_Kind___gt__ f fd) (T : Txt mg) (KT : KindT K C) (KO : KindO K C) (g_Kind : mg "Kind" = some (.ref C)) (c_lt : CalN P w K mg base C 2 "__lt__" P_Kind___lt__ (spCmp C ltB)) :
    FnOk P w K mg base CX0 3 f fd P_Kind___gt__ (spCmp C gtB) := by
  obtain ⟨f_lt, fd_lt, o___lt__, G_Kind___lt__, b_Kind___lt__⟩ := c_lt
  refine F.ok sc_Kind___gt__ (fun vs H Q E h => ?_) (fun cdv A outer s H vs Q E hr h => ?_)
  · obtain ⟨p, q, a, b, c, d, rfl, _⟩ := h
    rfl
  · obtain ⟨p, q, a, b, c, d, rfl, hp, hq, k⟩ := h
    refine ⟨_, (pss_cons (ps_if (pt_not (pt_val (pe_callB call_isi (by rfl) T.n_isinstance (by decide +kernel) (pa_cons (pv 1) (pa_cons (pe_glob (v := .ref C) rfl g_Kind rfl) pa_nil))))) (pss_one ps_never) pss_nil)
      (pss_one (ps_ret (pe_cmpR (op_cmpI (fun _ _ => rfl) o___lt__.at_ o___lt__.fn G_Kind___lt__ (hr.mono (by decide)) b_Kind___lt__ pass0) (pv 1) (pv 0) (nomark _))))), ?_⟩
    fail "z run"
    refine rd_isOwn KO hq ?_
    fail "z run"
    refine iteF ?_
    fail "z run"
    exact rd_own hq hp ⟨q, p, c, d, a, b, rfl, hq, hp, k⟩
def mn (a b : Int) : Int := if a ≤ b then a else b
def mx (a b : Int) : Int := if a ≥ b then a else b
def spMeet (C : Addr) (f g : Int → Int → Int) : Sp := fun vs H Q _ => ∃ (p q : Addr) (a b c d : Int), vs = [.ref p, .ref q] ∧ IsKind C H p a b ∧ IsKind C H q c d ∧ a ≤ 0 ∧ 0 ≤ b ∧ c ≤ 0 ∧ 0 ≤ d ∧ ∀ r H', Same H H' → IsKind C H' r (f a c) (g b d) → Q (.ref r) H'
theorem ok_and {f C : Addr} {fd : FuncData} (F : Fun K "__and__" "Kind.__and__" s_Kind___and__ f fd) (T : Txt mg) (KT : KindT K C) (KO : KindO K C) (c_kind : CalK P w K mg base C) (c_le : Cal P w K mg base 1 "lesser" P_lesser spMin) (c_gr : Cal P w K mg base 1 "greater" P_greater spMax) :
    FnOk P w K mg base CX0 4 f fd P_Kind___and__ (spMeet C mx mn) := by
  obtain ⟨f_kind, fd_kind, mk_Kind, G_Kind, b_Kind, g_Kind⟩ := c_kind
  obtain ⟨f_le, fd_le, G_lesser, b_lesser, g_lesser, k_lesser⟩ := c_le
  obtain ⟨f_gr, fd_gr, G_greater, b_greater, g_greater, k_greater⟩ := c_gr
  refine F.ok sc_Kind___and__ (fun vs H Q E h => ?_) (fun cdv A outer s H vs Q E hr h => ?_)
  · obtain ⟨p, q, a, b, c, d, rfl, _⟩ := h
    rfl
  · obtain ⟨p, q, a, b, c, d, rfl, hp, hq, h1, h2, h3, h4, k⟩ := h
    obtain ⟨dx, ep⟩ := id hp
    obtain ⟨dy, eq⟩ := id hq
    refine ⟨_, (pss_cons (ps_if (pt_not (pt_val (pe_callB call_isi (by rfl) T.n_isinstance (by decide +kernel) (pa_cons (pv 1) (pa_cons (pe_glob (v := .ref C) rfl g_Kind rfl) pa_nil))))) (pss_one ps_never) pss_nil)
      (pss_one (ps_ret (pe_make mk_Kind G_Kind (hr.mono (by decide)) rfl g_Kind b_Kind .nil pass0 (pa_cons (pe_call G_greater (hr.mono (by decide)) rfl g_greater k_greater b_greater .nil pass0 (pa_cons (pe_fld (pv 0) rfl) (pa_cons (pe_fld (pv 1) rfl) pa_nil))) (pa_cons (pe_call G_lesser (hr.mono (by decide)) rfl g_lesser k_lesser b_lesser .nil pass0 (pa_cons (pe_fld (pv 0) rfl) (pa_cons (pe_fld (pv 1) rfl) pa_nil))) pa_nil)))))), ?_⟩
    fail "z run"
    refine rd_isOwn KO hq ?_
    fail "z run"
    refine iteF ?_
    fail "z run"
    refine ⟨_, _, _, _, _, rfl, ep, KT.cl, KT.n_low, kf_low _ _, ?_⟩
    fail "z run"
    refine ⟨_, _, _, _, _, rfl, eq, KT.cl, KT.n_low, kf_low _ _, ?_⟩
    fail "z run"
    refine ⟨a, c, rfl, ?_⟩
    fail "z run"
    refine ⟨_, _, _, _, _, rfl, ep, KT.cl, KT.n_high, kf_high _ _, ?_⟩
    fail "z run"
    refine ⟨_, _, _, _, _, rfl, eq, KT.cl, KT.n_high, kf_high _ _, ?_⟩
    fail "z run"
    refine ⟨b, d, rfl, ?_⟩
    fail "z run"
    exact rd_Kind (lo := mx a c) (hi := mn b d) (by unfold mx; split <;> omega) (by unfold mn; split <;> omega) fun r H' _ S hk => k r H' S hk
theorem ok_or {f C : Addr} {fd : FuncData} (F : Fun K "__or__" "Kind.__or__" s_Kind___or__ f fd) (T : Txt mg) (KT : KindT K C) (KO : KindO K C) (c_kind : CalK P w K mg base C) (c_le : Cal P w K mg base 1 "lesser" P_lesser spMin) (c_gr : Cal P w K mg base 1 "greater" P_greater spMax) :
    FnOk P w K mg base CX0 4 f fd P_Kind___or__ (spMeet C mn mx) := by
  obtain ⟨f_kind, fd_kind, mk_Kind, G_Kind, b_Kind, g_Kind⟩ := c_kind
  obtain ⟨f_le, fd_le, G_lesser, b_lesser, g_lesser, k_lesser⟩ := c_le
  obtain ⟨f_gr, fd_gr, G_greater, b_greater, g_greater, k_greater⟩ := c_gr
  refine F.ok sc_Kind___or__ (fun vs H Q E h => ?_) (fun cdv A outer s H vs Q E hr h => ?_)
  · obtain ⟨p, q, a, b, c, d, rfl, _⟩ := h
    rfl
  · obtain ⟨p, q, a, b, c, d, rfl, hp, hq, h1, h2, h3, h4, k⟩ := h
    obtain ⟨dx, ep⟩ := id hp
    obtain ⟨dy, eq⟩ := id hq
    refine ⟨_, (pss_cons (ps_if (pt_not (pt_val (pe_callB call_isi (by rfl) T.n_isinstance (by decide +kernel) (pa_cons (pv 1) (pa_cons (pe_glob (v := .ref C) rfl g_Kind rfl) pa_nil))))) (pss_one ps_never) pss_nil)
      (pss_one (ps_ret (pe_make mk_Kind G_Kind (hr.mono (by decide)) rfl g_Kind b_Kind .nil pass0 (pa_cons (pe_call G_lesser (hr.mono (by decide)) rfl g_lesser k_lesser b_lesser .nil pass0 (pa_cons (pe_fld (pv 0) rfl) (pa_cons (pe_fld (pv 1) rfl) pa_nil))) (pa_cons (pe_call G_greater (hr.mono (by decide)) rfl g_greater k_greater b_greater .nil pass0 (pa_cons (pe_fld (pv 0) rfl) (pa_cons (pe_fld (pv 1) rfl) pa_nil))) pa_nil)))))), ?_⟩
    fail "z run"
    refine rd_isOwn KO hq ?_
    fail "z run"
    refine iteF ?_
    fail "z run"
    refine ⟨_, _, _, _, _, rfl, ep, KT.cl, KT.n_low, kf_low _ _, ?_⟩
    fail "z run"
    refine ⟨_, _, _, _, _, rfl, eq, KT.cl, KT.n_low, kf_low _ _, ?_⟩
    fail "z run"
    refine ⟨a, c, rfl, ?_⟩
    fail "z run"
    refine ⟨_, _, _, _, _, rfl, ep, KT.cl, KT.n_high, kf_high _ _, ?_⟩
    fail "z run"
    refine ⟨_, _, _, _, _, rfl, eq, KT.cl, KT.n_high, kf_high _ _, ?_⟩
    fail "z run"
    refine ⟨b, d, rfl, ?_⟩
    fail "z run"
    exact rd_Kind (lo := mn a c) (hi := mx b d) (by unfold mn; split <;> omega) (by unfold mx; split <;> omega) fun r H' _ S hk => k r H' S hk
end
/-! ### a caught error that is kept behind its suite -/
section
variable {X : Cx} {pins : List (Addr × Obj)} {σ : L2.St} {H : Hp} {s : Shared}
/-- what is kept behind: the context with the error pinned -/
abbrev kept (X : Cx) (a : Addr) (oe : Obj) (pn : List (Addr × Obj)) : Cx := X.tr ((a, oe) :: pn) X.xe
theorem un_kept {a : Addr} {oe : Obj} {pn' : List (Addr × Obj)} (ok : X.Ok) (J : Inv (kept X a oe (X.pn ++ pins)) pn' σ H s) : Inv X pins σ H s where
  ok := ok
  os := J.os
  bare := J.bare
  base := J.base
  loc := J.loc
  cell := J.cell
  free := J.free
  freeC := J.freeC
  pin := fun q hq => J.pin q (List.mem_append.mpr (.inl (List.mem_cons.mpr (.inr hq))))
  hok := J.hok
  len := J.len
theorem kept_of {a : Addr} {oe : Obj} {pn pn' : List (Addr × Obj)} (ok : X.Ok) (J : Inv (X.suite a ((a, oe) :: pn)) pn' σ H s) : Inv (kept X a oe pn) pn' σ H s where
  ok := ok.toTry _ _
  os := J.os
  bare := J.bare
  base := J.base
  loc := J.loc
  cell := J.cell
  free := J.free
  freeC := J.freeC
  pin := J.pin
  hok := J.hok
  len := J.len
theorem sp_kept {a : Addr} {oe : Obj} {D : Ends} {fl : Flow} (ok : X.Ok) (h : SP (kept X a oe (X.pn ++ pins)) [] D fl s) : SP X pins D fl s := by
  match fl, h with
  | .next, ⟨σ', H', J, q⟩ => exact ⟨σ', H', un_kept ok J, q⟩
  | .brk, ⟨σ', H', J, q⟩ => exact ⟨σ', H', un_kept ok J, q⟩
  | .cont, ⟨σ', H', J, q⟩ => exact ⟨σ', H', un_kept ok J, q⟩
  | .ret _, ⟨v, σ', H', J, r, q⟩ => exact ⟨v, σ', H', un_kept ok J, r, q⟩
end
/-- what a try that keeps its error wishes of one that its body raises -/
def wKeep (K : PySem.W.Frag) (c : Value) (i : Nat) (ts tk : Addr → Value → Option Addr → TS) (D : Ends) : WX := fun cls d σ H =>
  PySem.W.exmOne K cls c = some true ∧ ∀ a, H a = none → ts a cls d { nx := fun σ' H' => tk a cls d D (σ'.set i none) H', rt := fun _ _ => False } (σ.set i (some (.ref a))) H
section
variable {X : Cx} {x n : Str} {c : Value} {i : Nat} {body suite rest : List Stmt} {b₀ : Stmt} {np pos pos' : Pos} {tb : WX → TS} {ts tk : Addr → Value → Option Addr → TS} {t0 : TS}
/-- try: body / except x as n: suite, and what stands behind, read in the light of the error that was caught -/
theorem pss_keep (hs : X.stack = X.env :: X.outer) (hf : X.env.frame = some X.env.locals) (hN : X.N.Nodup) (hi : X.N[i]? = some n) (hln : X.env.kindOf n = some .local) (hc : Names X x c)
    (hb : ∀ (W : WX) (pn : List (Addr × Obj)) (xe : Value → Shared → Prop), Takes (X.tr pn xe) W → PSs (X.tr pn xe) body (tb W))
    (hsu : ∀ (a : Addr) (oe : Obj) (cls : Value) (d : Option Addr) (pn : List (Addr × Obj)), Zc cls d oe → (∃ vs, oe.data = .fields vs) → PSs (X.suite a ((a, oe) :: pn)) (b₀ :: suite) (ts a cls d))
    (h0 : PSs X rest t0)
    (hk : ∀ (a : Addr) (oe : Obj) (cls : Value) (d : Option Addr) (pn : List (Addr × Obj)), Zc cls d oe → (∃ vs, oe.data = .fields vs) → PSs (kept X a oe pn) rest (tk a cls d)) :
    PSs X (.Try body [.ExceptHandler (some (.Name x np)) (some n) (b₀ :: suite) pos'] [] [] pos :: rest) (fun D σ H => tb (wKeep X.K c i ts tk D) { D with nx := t0 D } σ H) := by
  constructor
  intro pins s σ H D I h
  have ok := I.ok
  -- either as behind any statement, or with the error kept
  refine wpAny_execs_cons (thn (Q := fun fl s1 => SP X pins { D with nx := t0 D } fl s1 ∨ (fl = .next ∧ ∃ (a : Addr) (oe : Obj) (cls : Value) (d : Option Addr) (σ' : L2.St) (H' : Hp), Zc cls d oe ∧ (∃ vs, oe.data = .fields vs) ∧
    Inv (kept X a oe (X.pn ++ pins)) [] σ' H' s1 ∧ tk a cls d D σ' H')) ?_ fun fl s1 z => ?_)
  · have hfr : X.A.frames = some (X.env :: X.outer) := ok.frames.trans (congrArg some hs)
    refine wpAny_Try_except ?_
    refine wpAny_mono ((hb (wKeep X.K c i ts tk D) (X.pn ++ pins) _ (fun u s' xx => ?_)).run [] s σ H _ (I.toTry _) h) (fun fl s1 z => ?_) (fun e s1 he => he)
    · -- what the body raises is caught here
      obtain ⟨a, B, sI, pins', σ', H', cls, d, eu, J', nb, up, sky, na, os, ag, hyes, hgo⟩ := xx
      subst eu
      have J : Inv X pins σ' H' sI := J'.ofTry ok
      have air : Sky B (X.env :: X.outer) a (Zc cls d) X.env.locals s'.heap := hs ▸ sky
      refine Sky.land Zc.steady hfr hf air fun h1 fly1 up1 => ?_
      have J1 : Inv X pins σ' H' { s' with heap := h1 } := J.landed nb fly1.1 (up.trans up1) os ag
      obtain ⟨o1, v1, at1, z1, f1⟩ := fly1.there
      have off : a ∉ frs (X.env :: X.outer) := fun hm => by
        obtain ⟨_, o', e', no⟩ := fly1.2.2.1.mem hm
        rw [at1] at e'
        cases e'
        exact no _ f1
      have offL : a ≠ X.env.locals := fun z => off (List.mem_filterMap.mpr ⟨X.env, List.mem_cons_self, hf.trans (congrArg some z.symm)⟩)
      have offF : a ∉ X.fs := fun hm => by
        obtain ⟨e, m, q⟩ := List.mem_filterMap.mp hm
        exact off (List.mem_filterMap.mpr ⟨e, List.mem_cons_of_mem _ m, q⟩)
      have S1 := J1.suite at1 f1 na offL offF
      have cl : PySem.W.Looks (model X.prog X.w) h1 (typeOf (.ref a)) cls := fun A Q E s k q => wpAny_typeOf_ref (k _ _ at1) (z1.1.symm ▸ q)
      have fits := PySem.W.exm_one (M := model X.prog X.w) J1.kIn cl hyes
      have named : ∀ {Q : Value → Shared → Prop} {E : Value → Shared → Prop}, Q c { s' with heap := h1 } → wpAny (model X.prog X.w) (X.A.mark (some (.ref a))) (eval (.Name x np) X.env) Q E { s' with heap := h1 } := fun {Q E} q => by
        obtain ⟨g, nodb, m⟩ := hc
        rcases m with m | ⟨m, bt, nn⟩
        · exact ld_glob (X := X.suite a ((a, o1) :: (X.pn ++ pins))) S1 g m q nodb
        · exact ld_blt (X := X.suite a ((a, o1) :: (X.pn ++ pins))) S1 g m bt q nn nodb
      refine wpAny_handleBy_cons (codeAny_handlers_test (named (fits.here ?_))) (fun q => nomatch q)
      refine codeAny_handlers_suite_as (HandSPX.lands_againZ fly1 fun h2 fly2 up2 => ?_)
      obtain ⟨o2, v2, at2, z2, f2⟩ := fly2.there
      have S2 := (J.landed (s' := { s' with heap := h2 }) nb fly2.1 ((up.trans up1).trans up2) os ag).suite at2 f2 na offL offF
      refine store_ok (X := X.suite a ((a, o2) :: (X.pn ++ pins))) (v := .ref a) S2 hN hi (.inl hln) rfl (fun s3 S3 => ?_) (.inr hln)
      refine wpAny_mono ((hsu a o2 cls d (X.pn ++ pins) z2 ⟨_, f2⟩).run [] s3 _ H' _ S3 (hgo a na)) (fun fl s4 z => ?_) (fun _ _ z => False.elim z)
      match fl, z with
      | .next, ⟨σ4, H4, S4, q4⟩ => exact gone_ok (X := kept X a o2 (X.pn ++ pins)) (kept_of ok S4) hN hi hln fun s5 J5 => .inr ⟨rfl, a, o2, cls, d, _, _, z2, ⟨_, f2⟩, J5, q4⟩
      | .brk, ⟨_, _, _, q4⟩ => exact False.elim q4
      | .cont, ⟨_, _, _, q4⟩ => exact False.elim q4
      | .ret _, ⟨_, _, _, _, _, q4⟩ => exact False.elim q4
    · match fl, z with
      | .next, ⟨σ', H', J', q⟩ => exact wpAny_execs_nil (.inl ⟨σ', H', J'.ofTry ok, q⟩)
      | .brk, ⟨σ', H', J', q⟩ => exact .inl ⟨σ', H', J'.ofTry ok, q⟩
      | .cont, ⟨σ', H', J', q⟩ => exact .inl ⟨σ', H', J'.ofTry ok, q⟩
      | .ret _, ⟨v, σ', H', J', r, q⟩ => exact .inl ⟨v, σ', H', J'.ofTry ok, r, q⟩
  · rcases z with z | ⟨rfl, a, oe, cls, d, σ', H', zc, hd, J, q⟩
    · match fl, z with
      | .next, ⟨σ', H', J, q⟩ => exact h0.run pins s1 σ' H' D J q
      | .brk, z => exact z
      | .cont, z => exact z
      | .ret _, z => exact z
    · exact thn ((hk a oe cls d (X.pn ++ pins) zc hd).run [] s1 σ' H' D J q) fun fl s2 z => sp_kept ok z
end
/-- what an own exception class must have, so that isinstance and fields are read of its objects -/
structure ExcK (K : PySem.W.Frag) (C : Addr) : Prop where
  cl : (PySem.W.clsIn K C).isSome = true
  ga : PySem.W.findIn K (.ref C) "__getattribute__" = some (some (.builtin "BaseException.__getattribute__"))
  gg : PySem.W.findIn K (.ref C) "__getattr__" = some none
  su : PySem.W.subIn K (.ref C) (.type "BaseException") = some true
  ha : PySem.W.findIn K (.ref C) "__class__" = some (some (.builtin "object.__class__"))
  hn : PySem.W.specialIn K (.builtin "object.__class__") "__get__" = some (some (.builtin "getset_descriptor.__get__"))
  ht : PySem.W.takesIn K (.builtin "object.__class__") = some true
  hm : PySem.W.mroIn K C (.type "object") = some true
  hd : PySem.W.hasDictIn K C = true
section
variable {X : Cx} {a : Addr} {oe : Obj} {cls : Value} {d : Option Addr}
theorem held_at {pins : List (Addr × Obj)} {σ : L2.St} {H : Hp} {s : Shared} {C dd : Addr} {fs : List (Str × V)} (hp : (a, oe) ∈ X.pn) (hz : Zc cls d oe) (hf : ∃ vs, oe.data = .fields vs) (I : Inv X pins σ H s) (ec : cls = .ref C) (ed : d = some dd) (ea : H dd = some (.xd fs)) :
    ∃ (od : Obj) (mA : Str → Option Value), PySem.W.InstAt s.heap a oe C (some od) ∧ (∀ y, PySem.W.lookIn y od = some (mA y)) ∧ ∀ y, RelO (fs.lookup y) (mA y) := by
  subst ec
  subst ed
  obtain ⟨ha, _⟩ := I.pin (a, oe) (List.mem_append.mpr (.inl hp))
  obtain ⟨vs, hd⟩ := hf
  have z : ObjOk X.prog X.w H s.heap dd (.xd fs) := I.hok dd _ ea
  obtain ⟨mA, hns, hr⟩ := z
  obtain ⟨od, ho, hl⟩ := lookIn_ns hns
  refine ⟨od, mA, ⟨ha, hz.1, ?_, ?_⟩, hl, hr⟩
  · unfold PySem.W.notCls
    rw [hd]
  · rw [hz.2]
    exact ho
/-- isinstance(e, c), e the error that is kept -/
def rIsP (K : PySem.W.Frag) (a : Addr) (cls : Value) (d : Option Addr) : List V → Hp → VK → Prop := fun xs H Q =>
  ∃ (C dd : Addr) (fs : List (Str × V)) (c : V) (cv : Value) (b : Bool), xs = [.ref a, c] ∧ cls = .ref C ∧ ExcK K C ∧ d = some dd ∧ H dd = some (.xd fs) ∧ (∀ u, RelV c u → u = cv) ∧ PySem.W.kitOne K (.ref C) cv = some b ∧ Q (.bl b) H
theorem call_isP (hp : (a, oe) ∈ X.pn) (hz : Zc cls d oe) (hf : ∃ vs, oe.data = .fields vs) : CallR X (.builtin "isinstance") (rIsP X.K a cls d) := by
  intro pins s σ H xs us Q I r h
  obtain ⟨C, dd, fs, c, cv, b, rfl, ec, T, ed, ea, hcv, e, q⟩ := h
  cases r with
  | cons rx rr =>
    cases rr with
    | cons rt rr =>
      cases rr
      cases rx
      have ev := hcv _ rt
      subst ev
      obtain ⟨od, mA, J, _⟩ := held_at hp hz hf I ec ed ea
      exact PySem.W.kia_one (PySem.W.kitx_exc T.cl T.ga T.gg T.su T.ha T.hn T.ht T.hm) I.kIn J e (fun z => nomatch z) fun tk => ⟨.bl b, H, I.kept (t' := tk) fun _ _ z => z, rfl, q⟩
/-- e.f, e the error that is kept -/
def tXfP (K : PySem.W.Frag) (a : Addr) (cls : Value) (d : Option Addr) (f : Str) (te : TE) : TE := fun σ H Q => te σ H fun x H1 => x = .ref a ∧
  ∃ (C dd : Addr) (fs : List (Str × V)) (v : V), cls = .ref C ∧ ExcK K C ∧ PySem.W.findIn K (.ref C) f = some none ∧ d = some dd ∧ H1 dd = some (.xd fs) ∧ fs.lookup f = some v ∧ Q v H1
theorem pe_xfP {e : Expr} {te : TE} {pos : Pos} {n : Str} (hp : (a, oe) ∈ X.pn) (hz : Zc cls d oe) (hf : ∃ vs, oe.data = .fields vs) (he : PE X e te) (hb : attributeBase e n X.env (eval e X.env) = eval e X.env := by rfl) :
    PE X (.Attribute e n pos) (tXfP X.K a cls d n te) := by
  constructor
  intro pins s σ H Q I h
  refine attr_of hb (thn (he.run pins s σ H _ I h) fun u s1 hh => ?_)
  obtain ⟨x, H1, I1, rx, ex, C, dd, fs, v, ec, T, no, ed, ea, l, q⟩ := hh
  subst ex
  obtain rfl : u = Value.ref a := rx
  obtain ⟨od, mA, J, hl, hr⟩ := held_at hp hz hf I1 ec ed ea
  obtain ⟨u, hu, ru⟩ := RelO.some_of (v := v) (o := mA n) (by rw [← l]; exact hr n)
  exact HandSPX.exc_get I1.kIn J T.ga T.gg T.su (PySem.W.findObj_own T.hd no rfl ((hl n).trans (congrArg some hu))) (handed_of ru) ⟨v, H1, I1.tok _, ru, q⟩
end
/-! ### methods that may raise, in a try; in of instances; the text of dicts -/
section
variable {X : Cx} {CX : CXT} {k : Nat} {f C : Addr} {fd : FuncData} {ps : List Str} {sp : Sp} {m : Str} {pos apos : Pos} {e o : Expr} {es : List Expr} {ta : TE} {t : TA}
/-- o.m(e, ..) in a try: what it raises goes to the wish that the slots at hand have -/
def tMethX (C : Addr) (m : Str) (sp : Sp) (E : L2.St → XK) (ta : TE) (t : TA) : TE := fun σ H Q => tMeth C m sp [] (E σ) ta t σ H Q
theorem pe_methX {E : L2.St → XK} {pl : Sem Bool} (he : PE X o ta) (c : Cls X.K C) (hm : Meth X.K C m f) (F : FnOk X.prog X.w X.K X.mg X.base CX k f fd ps sp) (hr : Room k X.A) (hb : Binds X.K fd ps []) (hx : ∀ σ, PassesAt CX X σ (E σ)) (ha : PA X (e :: es) t)
    (hst : starEach (e :: es) X.env = (false, eval e X.env) :: starEach es X.env := by rfl) (hpl : (backTo pos (starEach es X.env)).any (·.1) = false := by rfl)
    (ht : eval (.Call (.Attribute o m apos) (e :: es) [] pos) X.env = (do
      let ov ← eval o X.env
      standAt apos.atName
      let (f, first) ← holding [ov] (getMethod ov m pl)
      callWith pos f first (backTo pos (starEach (e :: es) X.env)) (backToKw pos (keywordEach [] X.env))) := by rfl) :
    PE X (.Call (.Attribute o m apos) (e :: es) [] pos) (tMethX C m sp E ta t) := by
  constructor
  intro pins s σ H Q I h
  refine PySem.W.methodCall_KW (pl := pl) (thn (he.run pins s σ H _ I h) fun u s1 z => ?_) ht
  obtain ⟨x, H1, I1, rx, a, dx, fs, rfl, ea, l, q⟩ := z
  cases rx
  refine getmeth_ok I1 ea c hm l (PySem.W.callWith_K (first := [.ref a]) (h₀ := X.base) I.ok.mod.kin hm.kp (thn (ha.run pos pins s1 σ H1 _ I1 q) fun us s2 z => ?_) hst hpl)
  obtain ⟨vs, H2, I2, r, q2⟩ := z
  rw [List.append_nil] at q2
  exact ⟨I2.kIn, run_fnS (us := .ref a :: us) (vs := .ref a :: vs) F hr hb (hx σ) I2 (.cons rfl r) q2⟩
/-- x in y, y an instance of the class at C with a def for it -/
def rInI (C : Addr) (sp : Sp) (E : XK) (g : Bool → Bool) : R2 := fun x y H Q => ∃ b dy gs, y = .ref b ∧ H b = some (.ins C dy gs) ∧ sp [y, x] H (fun z H' => ∃ c, z = .bl c ∧ Q (.bl (g c)) H') E
theorem op_inI {E : XK} (hs : PySem.W.findIn X.K (.ref C) "__contains__" = some (some (.ref f))) (hf : PySem.W.isFn X.K (.ref f) = true)
    (F : FnOk X.prog X.w X.K X.mg X.base CX k f fd ps sp) (hr : Room k X.A) (hb : Binds X.K fd ps []) (hx : Passes CX X E) : OpR X (compareOp .In) (rInI C sp E id) := by
  intro pins s σ H x y v u Q I rx ry h
  obtain ⟨b, dy, gs, rfl, hb', q⟩ := h
  cases (show u = Value.ref b from ry)
  obtain ⟨mB, O, _⟩ := ins_get I.hok hb'
  obtain ⟨od, J, _⟩ := O.look
  obtain ⟨m, hF⟩ := I.fr
  refine PySem.W.in_K hF I.ok.mod.kin J hs hf ?_
  refine wpAny_mono (run_in (us := [.ref b, v]) (ws := [.ref b, x]) F hr hb I.env0 hx I (.cons rfl (.cons rx .nil)) q) (fun w s' z => ?_) fun _ _ x => x
  obtain ⟨z', H', I', rz, c, ec, qz⟩ := z
  subst ec
  cases (show w = Value.bool c from rz)
  exact wpAny_truthy_bool ⟨.bl c, H', I', rfl, qz⟩
theorem op_notInI {E : XK} (hs : PySem.W.findIn X.K (.ref C) "__contains__" = some (some (.ref f))) (hf : PySem.W.isFn X.K (.ref f) = true)
    (F : FnOk X.prog X.w X.K X.mg X.base CX k f fd ps sp) (hr : Room k X.A) (hb : Binds X.K fd ps []) (hx : Passes CX X E) : OpR X (compareOp .NotIn) (rInI C sp E (!·)) := by
  intro pins s σ H x y v u Q I rx ry h
  obtain ⟨b, dy, gs, rfl, hb', q⟩ := h
  cases (show u = Value.ref b from ry)
  obtain ⟨mB, O, _⟩ := ins_get I.hok hb'
  obtain ⟨od, J, _⟩ := O.look
  obtain ⟨m, hF⟩ := I.fr
  refine PySem.W.notIn_K hF I.ok.mod.kin J hs hf ?_
  refine wpAny_mono (run_in (us := [.ref b, v]) (ws := [.ref b, x]) F hr hb I.env0 hx I (.cons rfl (.cons rx .nil)) q) (fun w s' z => ?_) fun _ _ x => x
  obtain ⟨z', H', I', rz, c, ec, qz⟩ := z
  subst ec
  cases (show w = Value.bool c from rz)
  exact wpAny_truthy_bool ⟨.bl (!c), H', I', rfl, qz⟩
end
/-- data with dicts of small keys: what a value is, at any depth -/
inductive Dq (K : PySem.W.Frag) (H : Hp) : V → PyData → Prop
  | dp {v : V} {d : PyData} (h : Dp K H v d) : Dq K H v d
  | d0 {a : Addr} (h : H a = some (.dK [])) : Dq K H (.ref a) (.dict [])
  | d1 {a : Addr} {i j : Int} (h : H a = some (.dK [(.inl i, .int j)])) : Dq K H (.ref a) (.dict [(.int i, .int j)])
def rReprQ (K : PySem.W.Frag) : List V → Hp → VK → Prop := fun xs H Q =>
  ∃ (x : V) (d : PyData), xs = [x] ∧ Dq K H x d ∧ d.showable = true ∧ (d.hasDict = true → ∀ v, ¬ Dp K H v d) ∧
    d.depth ≤ 64 ∧ d.shown.length ≤ sizeLine ∧ (∀ i, x = .int i → i.natAbs.log2 < 1920) ∧ Q (.str d.shown) H
theorem Dq.cases2 {K : PySem.W.Frag} {H : Hp} {v : V} {d : PyData} (h : Dq K H v d) (n : d.hasDict = true → ∀ v, ¬ Dp K H v d) : (Dp K H v d ∧ d.hasDict = false) ∨ ∃ a kvs ds, v = .ref a ∧ d = .dict ds ∧ H a = some (.dK kvs) ∧
    ((kvs = [] ∧ ds = []) ∨ ∃ i j : Int, kvs = [(.inl i, .int j)] ∧ ds = [(.int i, .int j)]) := by
  cases h with
  | dp h =>
    refine .inl ⟨h, ?_⟩
    cases e : d.hasDict with
    | false => rfl
    | true => exact absurd h (n e _)
  | d0 h => exact .inr ⟨_, _, _, rfl, rfl, h, .inl ⟨rfl, rfl⟩⟩
  | d1 h => exact .inr ⟨_, _, _, rfl, rfl, h, .inr ⟨_, _, rfl, rfl⟩⟩
theorem call_reprQ {X : Cx} (hg : Calm X.A) (hu : X.A.units + 70 < cLine) : CallR X (.builtin "repr") (rReprQ X.K) := by
  intro pins s σ H xs us Q I r h
  obtain ⟨x, d, rfl, hd, hs, hn, hdep, hsz, hi, q⟩ := h
  rcases hd.cases2 hn with ⟨hd, nd⟩ | ⟨a, kvs, ds, rfl, rfl, ea, hk⟩
  · exact call_reprD hg hu pins s σ H _ us Q I r ⟨x, d, rfl, hd, hs, nd, hdep, hsz, hi, q⟩
  · obtain ⟨u, rfl, rx⟩ := vals1 r
    cases rx
    have z : ObjOk X.prog X.w H s.heap a (.dK kvs) := I.hok a _ ea
    obtain ⟨_, nsm, vs, hkv, o, es, ep, ho, ⟨hc, _, _⟩, hdat, _, hp, _⟩ := z
    have rd : Reads s.heap (.ref a) (.dict ds) (a :: ([] : List Addr) ++ []) := by
      rcases hk with ⟨rfl, rfl⟩ | ⟨i, j, rfl, rfl⟩
      · cases hkv
        have e0 : es.toList = [] := by
          cases hl : es.toList with
          | nil => rfl
          | cons _ _ =>
            rw [hl] at hp
            cases hp
        refine Reads.dict ho hc hdat ?_ ?_
        · rw [e0]
          exact .nil
        · rw [e0]
          exact .nil
      · obtain ⟨kq, vq, rfl, ek, rv⟩ : ∃ kq vq, vs = [(kq, vq)] ∧ (Sum.inl i : Key) = kq ∧ RelV (.int j) vq := by
          match vs, hkv with
          | [(kq, vq)], .cons h1 .nil => exact ⟨kq, vq, rfl, h1.1, h1.2⟩
        · cases hl : es.toList with
          | nil =>
            rw [hl] at hp
            cases hp
          | cons e1 r1 =>
            rw [hl] at hp
            cases hp with
            | cons hk1 hv1 hr1 =>
              cases hr1
              subst ek
              obtain ⟨t, ev⟩ := rv
              have ev' : e1.val = .int j t := hv1.trans ev
              rcases keyIs_shape (show keyIs (.inl i) e1.key = true from hk1) with ⟨i', t', e2, e3⟩ | ⟨x', t', e2, e3⟩
              · have ei : i = i' := Sum.inl.inj e2
                subst ei
                refine Reads.dict (as := [] ++ []) (bs := [] ++ []) ho hc hdat ?_ ?_
                · rw [hl]
                  show ReadsAll s.heap [e1.key] [PyData.int i] _
                  rw [e3]
                  exact .cons (.int i t') .nil
                · rw [hl]
                  show ReadsAll s.heap [e1.val] [PyData.int j] _
                  rw [ev']
                  exact .cons (.int j t) .nil
              · cases e2
    refine repr_of_reads' rd hs (fun _ hm => ?_) hg (by omega) (fun _ _ e => e) (fun h' u tk hk => ?_) hsz
    · rw [List.append_nil] at hm
      have e := List.mem_singleton.mp hm
      rw [← e] at nsm
      simp at nsm
    · exact ⟨.str _, H, I.kept (t' := tk) hk, ⟨_, rfl⟩, q⟩
theorem rd_reprQ {K : PySem.W.Frag} {H : Hp} {Q : VK} {v : V} {d : PyData} {k n : Nat} (h : Dp K H v d) (s : Sm k n d) (hk : k ≤ 60) (hn : n ≤ 50000) (q : Q (.str d.shown) H) : rReprQ K [v] H Q := by
  refine ⟨v, d, rfl, .dp h, s.sh, fun z => ?_, by have := s.dp; omega, s.text hn, fun i e => ?_, q⟩
  · rw [s.nd] at z
    cases z
  · subst e
    cases h
    have z := s.sh
    simp only [PyData.showable, decide_eq_true_eq] at z
    exact z
theorem rd_reprQ0 {K : PySem.W.Frag} {H : Hp} {Q : VK} {a : Addr} (h : H a = some (.dK [])) (q : Q (.str (PyData.shown (.dict []))) H) : rReprQ K [.ref a] H Q := by
  refine ⟨_, _, rfl, .d0 h, by simp [PyData.showable, PyData.showableKv], (fun _ v z => nomatch z), ?_, ?_, fun i e => V.noConfusion e, q⟩
  · simp [PyData.depth, PyData.depthKv]
  · exact few (by decide)
/-! ### errors with one value -/
theorem kit_sub {K : PySem.W.Frag} {C : Addr} {n : String} (hm : PySem.W.kitMeta n = true) (h : PySem.W.subIn K (.ref C) (.type n) = some true) : PySem.W.kitOne K (.ref C) (.type n) = some true := by
  unfold PySem.W.kitOne PySem.W.kitCls
  rw [if_neg (by simp)]
  first
    | (rw [if_pos hm]; exact h)
    | (simp only [hm, if_true]; exact h)
structure ErrT (K : PySem.W.Frag) (mg : Str → Option Value) (CW C : Addr) (nm : Str) : Prop where
  ox : OexC K C
  ek : ExcK K C
  nv : PySem.W.findIn K (.ref C) "value" = some none
  me : PySem.W.exmOne K (.ref C) (.ref CW) = some true
  kc : PySem.W.kitOne K (.ref C) (.ref C) = some true
  kv : PySem.W.kitOne K (.ref C) (.type "ValueError") = some true
  g : mg nm = some (.ref C)
def spBad (C : Addr) : Sp := fun vs H Q _ => ∃ (a : Addr) (v : V), vs = [.ref a, v] ∧ H a = some (exo a C none) ∧ ∀ dx, H dx = none → dx ≠ a → Q .non (upd (upd H dx (exd dx [("value", v)])) a (exo a C (some dx)))
theorem rd_bad {C : Addr} {H : Hp} {Q : XK} {E : XK} {v : V} (k : ∀ d H', H d = none → Same H H' → H' d = some (.xd [("value", v)]) → Q (.ref C) (some d) H') :
    [v].length ≤ 1000 ∧ ∀ a, H a = none → spBad C (.ref a :: ([v] ++ [])) (upd H a (exo a C none)) (fun u H2 => u = .non ∧ ∃ (d : Addr) (fs : List (Str × V)), H2 a = some (exo a C (some d)) ∧ H2 d = some (exd d fs) ∧ H d = none ∧ Q (.ref C) (some d) (upd (del H2 a) d (.xd fs))) E := by
  refine ⟨Nat.le_of_ble_eq_true rfl, fun a na => ⟨a, v, rfl, upd_same, fun dx nd ne => ?_⟩⟩
  have nd' : H dx = none := (upd_ne ne).symm.trans nd
  refine ⟨rfl, dx, _, upd_same, (upd_ne ne).trans upd_same, nd', k dx _ nd' (fun b o e => ?_) upd_same⟩
  have n1 : b ≠ a := ne_of_none e na
  have n2 : b ≠ dx := ne_of_none e nd'
  rw [upd_ne n2, del_ne n1, upd_ne n1, upd_ne n2, upd_ne n1]
  exact e
theorem rd_ost {K : PySem.W.Frag} {a C : Addr} {f : Str} {y : V} {H : Hp} {R : Hp → Prop} (T : OexC K C) (no : PySem.W.findIn K (.ref C) f = some none) (e : H a = some (exo a C none)) (k : ∀ dx, H dx = none → dx ≠ a → R (upd (upd H dx (exd dx [(f, y)])) a (exo a C (some dx)))) :
    ∃ a' C' : Addr, V.ref a = .ref a' ∧ OexC K C' ∧ PySem.W.findIn K (.ref C') f = some none ∧ ((H a' = some (exo a' C' none) ∧ ∀ dx, H dx = none → dx ≠ a' → R (upd (upd H dx (exd dx [(f, y)])) a' (exo a' C' (some dx)))) ∨
      ∃ (dx : Addr) (fs : List (Str × V)), H a' = some (exo a' C' (some dx)) ∧ H dx = some (exd dx fs) ∧ fs.length ≤ 900 ∧ R (upd H dx (exd dx ((f, y) :: fs)))) := ⟨a, C, rfl, T, no, .inl ⟨e, k⟩⟩
theorem pss_none {X : Cx} {l : List Stmt} : PSs X l (fun _ _ _ => False) := ⟨fun _ _ _ _ _ _ h => h.elim⟩
section
variable {X : Cx} {a : Addr} {oe : Obj} {cls : Value} {d : Option Addr} {pn : List (Addr × Obj)}
theorem call_isK (hz : Zc cls d oe) (hf : ∃ vs, oe.data = .fields vs) : CallR (kept X a oe pn) (.builtin "isinstance") (rIsP X.K a cls d) := call_isP (X := kept X a oe pn) List.mem_cons_self hz hf
theorem call_reprK (hg : Calm X.A) (hu : X.A.units + 70 < cLine) : CallR (kept X a oe pn) (.builtin "repr") (rReprQ X.K) := call_reprQ (X := kept X a oe pn) hg hu
theorem pe_xfK {e : Expr} {te : TE} {pos : Pos} {n : Str} (hz : Zc cls d oe) (hf : ∃ vs, oe.data = .fields vs) (he : PE (kept X a oe pn) e te) (hb : attributeBase e n X.env (eval e X.env) = eval e X.env := by rfl) :
    PE (kept X a oe pn) (.Attribute e n pos) (tXfP X.K a cls d n te) := pe_xfP (X := kept X a oe pn) List.mem_cons_self hz hf he hb
end
/-! ### own == with any value; != likewise; str of an instance; making that may raise -/
section
variable {prog : Program} {w : World} {A : Around} {E : Value → Shared → Prop} {s : Shared} {K : PySem.W.Frag} {x C f : Addr} {ox : Obj} {od : Option Obj} {b tb : Value}
theorem ne_KA {L : Addr} {h₀ : Heap} {m : Str → Option Value} {Q : Value → Shared → Prop} (hu : A.units + 1 < cLine) (F0 : PyProof.Rows.Fr h₀ L s.heap m) (X₀ : K.In h₀) (I : PySem.W.InstAt s.heap x ox C od) (hb : PySem.W.Looks (model prog w) s.heap (typeOf b) tb) (hnf : PySem.W.notFirst K C tb = true)
    (hm : PySem.W.mroIn K C (.type "object") = some true) (hn : PySem.W.findIn K (.ref C) "__ne__" = some (some (.builtin "object.__ne__"))) (hs : PySem.W.findIn K (.ref C) "__eq__" = some (some (.ref f))) (hf : PySem.W.isFn K (.ref f) = true)
    (h : wpAny (model prog w) A.in1 (call (.ref f) [.ref x, b]) (fun v s' => ∃ c, v = .bool c ∧ Q (.bool (!c)) s') E s) : wpAny (model prog w) A (richCompare .NotEq (.ref x) b) Q E s := by
  have X := X₀.keeps F0.keep
  have one : wpAny (model prog w) A (tryCompare (.ref x) "__ne__" b) (fun r s' => ∃ v, r = some v ∧ Q v s') E s := by
    unfold tryCompare
    refine wpAny_bind (ifBound_ne X I hn (wpAny_call (codeAny_call_builtin F.cmp_object.ne.plain F.cmpEntry_ne (PySem.W.check_slot F.cmpKind_ne F.cmpSplit_ne (I.type.andThen (PySem.W.looks_mroIn X hm)) (F.cmpArgs_ne _ _)
      (entry_ne (A := A.in1) hu X I hs hf (wpAny_mono h (fun v s' hv => ?_) fun _ _ e => e))))))
    obtain ⟨c, rfl, hq⟩ := hv
    first
      | exact ⟨c, rfl, wpAny_pure ⟨_, rfl, hq⟩⟩
      | exact ⟨c, rfl, _, rfl, hq⟩
  have fin : wpAny (model prog w) A (tryCompare (.ref x) "__ne__" b) (fun r s' => ∃ v, r = some v ∧ Q v s') E s := one
  simp only [richCompare, cmpInfo_NotEq, oneThing_ref]
  refine wpAny_holding (wpAny_bind (wpAny_cRoomFor (Nat.lt_of_succ_lt hu) ?_))
  refine wpAny_bind (I.type.here (wpAny_bind (hb.here ?_)))
  by_cases q : (Value.ref C != tb) = true
  · have e : PySem.W.subIn K tb (.ref C) = some false := by
      rcases Bool.or_eq_true_iff.mp hnf with e | e
      · rw [beq_iff_eq.mp e] at q
        simp at q
      · exact beq_iff_eq.mp e
    rw [if_pos q]
    refine wpAny_bind ((PySem.W.looks_subIn X e).here ?_)
    simp only [Bool.false_eq_true, if_false]
    refine wpAny_bind (wpAny_mono fin (fun r s' z => ?_) fun _ _ e => e)
    obtain ⟨v, rfl, hq⟩ := z
    exact wpAny_pure hq
  · rw [if_neg q]
    refine wpAny_bind (wpAny_pure ?_)
    simp only [Bool.false_eq_true, if_false]
    refine wpAny_bind (wpAny_mono fin (fun r s' z => ?_) fun _ _ e => e)
    obtain ⟨v, rfl, hq⟩ := z
    exact wpAny_pure hq
end
section
variable {X : Cx} {CX : CXT} {C g : Addr} {fd : FuncData} {ps : List Str} {k : Nat} {sp : Sp} {E : XK} {e : Expr} {es : List Expr} {t : TA} {x : Str} {p pos : Pos}
/-- x == y: x an instance of the class at C, whose def for it is at g; y of any type that does not go first -/
def rOwnA (K : PySem.W.Frag) (C : Addr) (sp : Sp) (E : XK) : R2 := fun x y H Q => ∃ a dx fs ty, x = .ref a ∧ H a = some (.ins C dx fs) ∧ TyX K H y ty ∧ PySem.W.notFirst K C ty = true ∧ sp [x, y] H Q E
theorem op_eqA {K0 : PySem.W.Frag} (hK : X.K = K0) (hs : PySem.W.findIn X.K (.ref C) "__eq__" = some (some (.ref g))) (hf : PySem.W.isFn X.K (.ref g) = true)
    (F : FnOk X.prog X.w X.K X.mg X.base CX k g fd ps sp) (hr : Room k X.A) (hb : Binds X.K fd ps []) (hx : Passes CX X E) : OpR X (compareOp .Eq) (rOwnA K0 C sp E) := by
  subst hK
  intro pins s σ H x y v u Q I rx ry h
  obtain ⟨a, dx, fs, ty, rfl, ha, hty, hnf, q⟩ := h
  cases (show v = Value.ref a from rx)
  obtain ⟨mA, O, _⟩ := ins_get I.hok ha
  obtain ⟨od, J, _⟩ := O.look
  obtain ⟨R, kx, kr, _⟩ := kit_of I ry hty
  obtain ⟨m, hF⟩ := I.fr
  show wpAny _ _ (richCompare .Eq (.ref a) u) _ _ s
  refine PySem.W.cmp_K (op := .Eq) (tb := ty) hr.units0 hF I.ok.mod.kin J (kx.ty _ _ I.kIn kr) hnf hs hf ?_
  refine wpAny_mono (run_in (us := [.ref a, u]) (ws := [.ref a, y]) F hr hb I.env0 hx I (.cons rfl (.cons ry .nil)) q) (fun w s' z => ?_) fun _ _ x => x
  obtain ⟨z', H', I', rz, qz⟩ := z
  exact SlX.cmpback rz ⟨z', H', I', rz, qz⟩
/-- x != y by the own == -/
def rNeA (K : PySem.W.Frag) (C : Addr) (sp : Sp) (E : XK) : R2 := fun x y H Q => ∃ a dx fs ty, x = .ref a ∧ H a = some (.ins C dx fs) ∧ TyX K H y ty ∧ PySem.W.notFirst K C ty = true ∧ sp [x, y] H (fun z H' => ∃ c, z = .bl c ∧ Q (.bl (!c)) H') E
theorem op_neA {K0 : PySem.W.Frag} (hK : X.K = K0) (hm : PySem.W.mroIn X.K C (.type "object") = some true) (hn : PySem.W.findIn X.K (.ref C) "__ne__" = some (some (.builtin "object.__ne__"))) (hs : PySem.W.findIn X.K (.ref C) "__eq__" = some (some (.ref g))) (hf : PySem.W.isFn X.K (.ref g) = true)
    (F : FnOk X.prog X.w X.K X.mg X.base CX k g fd ps sp) (hr : Room (k + 1) X.A) (hb : Binds X.K fd ps []) (hx : Passes CX X E) (hu : X.A.units + 1 < cLine) : OpR X (compareOp .NotEq) (rNeA K0 C sp E) := by
  subst hK
  intro pins s σ H x y v u Q I rx ry h
  obtain ⟨a, dx, fs, ty, rfl, ha, hty, hnf, q⟩ := h
  cases (show v = Value.ref a from rx)
  obtain ⟨mA, O, _⟩ := ins_get I.hok ha
  obtain ⟨od, J, _⟩ := O.look
  obtain ⟨R, kx, kr, _⟩ := kit_of I ry hty
  obtain ⟨m, hF⟩ := I.fr
  show wpAny _ _ (richCompare .NotEq (.ref a) u) _ _ s
  refine ne_KA (tb := ty) hu hF I.ok.mod.kin J (kx.ty _ _ I.kIn kr) hnf hm hn hs hf ?_
  refine wpAny_mono (run_in (us := [.ref a, u]) (ws := [.ref a, y]) F hr.in1 hb I.env0.in1 hx I (.cons rfl (.cons ry .nil)) q) (fun w s' z => ?_) fun _ _ x => x
  obtain ⟨z', H', I', rz, c, ec, qz⟩ := z
  subst ec
  cases (show w = Value.bool c from rz)
  exact ⟨c, rfl, .bl (!c), H', I', rfl, qz⟩
/-- str(x), x an instance whose class has a def for it -/
def rStrI (C : Addr) (sp : Sp) (E : XK) : List V → Hp → VK → Prop := fun xs H Q => ∃ a dx fs, xs = [.ref a] ∧ H a = some (.ins C dx fs) ∧ sp [.ref a] H (fun z H' => ∃ t, z = .str t ∧ Q (.str t) H') E
theorem call_strI (hs : PySem.W.findIn X.K (.ref C) "__str__" = some (some (.ref g))) (hf : PySem.W.isFn X.K (.ref g) = true)
    (F : FnOk X.prog X.w X.K X.mg X.base CX k g fd ps sp) (hr : Room (k + 2) X.A) (hb : Binds X.K fd ps []) (hx : Passes CX X E) (hu : X.A.units + 70 < cLine) : CallR X (.type "str") (rStrI C sp E) := by
  intro pins s σ H xs us Q I r h
  obtain ⟨a, dx, fs, rfl, ha, q⟩ := h
  obtain ⟨u, rfl, rx⟩ := vals1 r
  cases rx
  obtain ⟨mA, O, _⟩ := ins_get I.hok ha
  obtain ⟨od, J, _⟩ := O.look
  refine PySem.W.kso_call (by show X.A.units + 1 + 1 < cLine; omega) I.kIn J hs hf ?_
  refine wpAny_mono (run_in (us := [.ref a]) (ws := [.ref a]) F hr.in1.in1 hb I.env0.in1.in1 hx I (.cons rfl .nil) q) (fun w s' z => ?_) fun _ _ x => x
  obtain ⟨z', H', I', rz, t, et, qz⟩ := z
  subst et
  obtain ⟨tk, rfl⟩ := rz
  exact ⟨.str t, H', I', ⟨_, rfl⟩, qz⟩
/-- C(e, ..) in a try: what it raises goes to the wish that the slots at hand have -/
def tMakeX (C : Addr) (sp : Sp) (E : L2.St → XK) (t : TA) : TE := fun σ H Q => tMake C sp [] (E σ) t σ H Q
theorem pe_makeX {f : Addr} {E : L2.St → XK} (M : Mk X.K C f) (F : FnOk X.prog X.w X.K X.mg X.base CX k f fd ps sp) (hr : Room (k + 1) X.A) (hg : Gl X x) (hm : X.mg x = some (.ref C)) (hb : Binds X.K fd ps []) (hx : ∀ σ, PassesAt CX X σ (E σ))
    (ha : PA X (e :: es) t) (hdb : (x == ("__debug__" : Str)) = false := by decide) (he : starEach (e :: es) X.env = (false, eval e X.env) :: starEach es X.env := by rfl) (hpl : (backTo pos (starEach es X.env)).any (·.1) = false := by rfl) :
    PE X (.Call (.Name x p) (e :: es) [] pos) (tMakeX C sp E t) := by
  constructor
  intro pins s σ H Q I h
  refine wpAny_Call_Name_kw (ld_glob I hg hm (PySem.W.callWith_K (h₀ := X.base) I.ok.mod.kin M.kp (thn (ha.run pos pins s σ H _ I h) fun us s1 z => ?_) he hpl) hdb)
  obtain ⟨vs, H1, J, r, q0⟩ := z
  have q : ∀ x dx, H1 x = none → H1 dx = none → dx ≠ x → sp (.ref x :: (vs ++ [])) (upd (upd H1 dx (.own x)) x (.ins C dx [])) (fun v H2 => v = .non ∧ Q (.ref x) H2) (E σ) := q0
  refine ⟨J.kIn, ?_⟩
  have hq := q (s1.heap.objs.size + 1) s1.heap.objs.size (J.hok.fresh (Nat.le_succ _)) (J.hok.fresh (Nat.le_refl _)) (Nat.ne_of_lt (Nat.lt_succ_self _))
  have I2 := Inv.made (C := C) J
  have r2 : Vals (V.ref (s1.heap.objs.size + 1) :: (vs ++ [])) (Value.ref (s1.heap.objs.size + 1) :: (us ++ [])) := .cons rfl (r.append .nil)
  have hl : (Value.ref (s1.heap.objs.size + 1) :: us ++ []).length = ps.length := r2.length.symm.trans (F.len _ _ _ _ hq)
  refine wpAny_call (make_map (f := f) J.kIn M.makes M.init (beq_iff_eq.mp M.fn) (codeAny_mono (F.run _ X.stack _ _ ⟨Value.ref (s1.heap.objs.size + 1) :: us, []⟩ (Value.ref (s1.heap.objs.size + 1) :: (us ++ [])) _ _ (E σ) (hr.make C us [])
    (I2.env0.make C us []) (by have z := hb _ (Value.ref (s1.heap.objs.size + 1) :: us) I2.kIn hl; rw [List.append_nil] at z ⊢; exact z) r2 hq) fun r s' z => ?_))
  match r, z with
  | .error e, z => exact hx σ pins _ _ e s' I2 z
  | .ok (.ret _), z =>
    obtain ⟨v, H', I3, rv, ev, q3⟩ := I2.after z
    subst ev
    exact ⟨rv, ⟨V.ref (s1.heap.objs.size + 1), H', I3, rfl, q3⟩⟩
  | .ok .next, z => exact z.elim
  | .ok .brk, z => exact z.elim
  | .ok .cont, z => exact z.elim
end
/-! ### errors with two values -/
structure ErrT2 (K : PySem.W.Frag) (mg : Str → Option Value) (CW C : Addr) (nm f1 f2 : Str) : Prop where
  ox : OexC K C
  ek : ExcK K C
  n1 : PySem.W.findIn K (.ref C) f1 = some none
  n2 : PySem.W.findIn K (.ref C) f2 = some none
  me : PySem.W.exmOne K (.ref C) (.ref CW) = some true
  kc : PySem.W.kitOne K (.ref C) (.ref C) = some true
  kv : PySem.W.kitOne K (.ref C) (.type "ValueError") = some true
  g : mg nm = some (.ref C)
def spBad2 (C : Addr) (f1 f2 : Str) : Sp := fun vs H Q _ => ∃ (a : Addr) (v w : V), vs = [.ref a, v, w] ∧ H a = some (exo a C none) ∧ ∀ dx, H dx = none → dx ≠ a → Q .non (upd (upd (upd H dx (exd dx [(f1, v)])) a (exo a C (some dx))) dx (exd dx [(f2, w), (f1, v)]))
theorem rd_bad2 {C : Addr} {f1 f2 : Str} {H : Hp} {Q : XK} {E : XK} {v w : V} (k : ∀ d H', H d = none → Same H H' → H' d = some (.xd [(f2, w), (f1, v)]) → Q (.ref C) (some d) H') :
    [v, w].length ≤ 1000 ∧ ∀ a, H a = none → spBad2 C f1 f2 (.ref a :: ([v, w] ++ [])) (upd H a (exo a C none)) (fun u H2 => u = .non ∧ ∃ (d : Addr) (fs : List (Str × V)), H2 a = some (exo a C (some d)) ∧ H2 d = some (exd d fs) ∧ H d = none ∧ Q (.ref C) (some d) (upd (del H2 a) d (.xd fs))) E := by
  refine ⟨Nat.le_of_ble_eq_true rfl, fun a na => ⟨a, v, w, rfl, upd_same, fun dx nd ne => ?_⟩⟩
  have nd' : H dx = none := (upd_ne ne).symm.trans nd
  refine ⟨rfl, dx, _, (upd_ne ne.symm).trans upd_same, upd_same, nd', k dx _ nd' (fun b o e => ?_) upd_same⟩
  have n1 : b ≠ a := ne_of_none e na
  have n2 : b ≠ dx := ne_of_none e nd'
  rw [upd_ne n2, del_ne n1, upd_ne n2, upd_ne n1, upd_ne n2, upd_ne n1]
  exact e
theorem rd_ost2 {K : PySem.W.Frag} {a C dx : Addr} {f : Str} {y : V} {H : Hp} {R : Hp → Prop} {fs : List (Str × V)} (T : OexC K C) (no : PySem.W.findIn K (.ref C) f = some none) (e : H a = some (exo a C (some dx))) (ed : H dx = some (exd dx fs)) (hl : fs.length ≤ 900) (k : R (upd H dx (exd dx ((f, y) :: fs)))) :
    ∃ a' C' : Addr, V.ref a = .ref a' ∧ OexC K C' ∧ PySem.W.findIn K (.ref C') f = some none ∧ ((H a' = some (exo a' C' none) ∧ ∀ dx, H dx = none → dx ≠ a' → R (upd (upd H dx (exd dx [(f, y)])) a' (exo a' C' (some dx)))) ∨
      ∃ (dx : Addr) (fs : List (Str × V)), H a' = some (exo a' C' (some dx)) ∧ H dx = some (exd dx fs) ∧ fs.length ≤ 900 ∧ R (upd H dx (exd dx ((f, y) :: fs)))) := ⟨a, C, rfl, T, no, .inr ⟨dx, fs, e, ed, hl, k⟩⟩
/-! ### data with dicts within, at any depth -/
mutual
inductive Dz (H : Hp) : V → PyData → Prop
  | non : Dz H .non .none
  | bl (b : Bool) : Dz H (.bl b) (.bool b)
  | int (i : Int) : Dz H (.int i) (.int i)
  | str (x : Str) : Dz H (.str x) (.str x)
  | lst {a : Addr} {xs : List V} {ds : List PyData} : a ≠ sysModules → H a = some (.lst xs) → DzAll H xs ds → Dz H (.ref a) (.list ds)
  | tup {a : Addr} {xs : List V} {ds : List PyData} : H a = some (.tup xs) → DzAll H xs ds → Dz H (.ref a) (.tuple ds)
  | d0 {a : Addr} : H a = some (.dK []) → Dz H (.ref a) (.dict [])
  | d1 {a : Addr} {i j : Int} : H a = some (.dK [(.inl i, .int j)]) → Dz H (.ref a) (.dict [(.int i, .int j)])
inductive DzAll (H : Hp) : List V → List PyData → Prop
  | nil : DzAll H [] []
  | cons {v : V} {vs : List V} {d : PyData} {ds : List PyData} : Dz H v d → DzAll H vs ds → DzAll H (v :: vs) (d :: ds)
end
section
variable {X : Cx} {pins : List (Addr × Obj)} {σ : L2.St} {H : Hp} {s : Shared}
theorem d_reads {a : Addr} {kvs : List (Key × V)} {ds : List (PyData × PyData)} (I : Inv X pins σ H s) (ea : H a = some (.dK kvs)) (hk : (kvs = [] ∧ ds = []) ∨ ∃ i j : Int, kvs = [(.inl i, .int j)] ∧ ds = [(.int i, .int j)]) :
    Reads s.heap (.ref a) (.dict ds) (a :: ([] : List Addr) ++ []) ∧ sysModules ∉ (a :: ([] : List Addr) ++ []) := by
  have z : ObjOk X.prog X.w H s.heap a (.dK kvs) := I.hok a _ ea
  obtain ⟨_, nsm, vs, hkv, o, es, ep, ho, ⟨hc, _, _⟩, hdat, _, hp, _⟩ := z
  have rd : Reads s.heap (.ref a) (.dict ds) (a :: ([] : List Addr) ++ []) := by
    rcases hk with ⟨rfl, rfl⟩ | ⟨i, j, rfl, rfl⟩
    · cases hkv
      have e0 : es.toList = [] := by
        cases hl : es.toList with
        | nil => rfl
        | cons _ _ =>
          rw [hl] at hp
          cases hp
      refine Reads.dict ho hc hdat ?_ ?_
      · rw [e0]
        exact .nil
      · rw [e0]
        exact .nil
    · obtain ⟨kq, vq, rfl, ek, rv⟩ : ∃ kq vq, vs = [(kq, vq)] ∧ (Sum.inl i : Key) = kq ∧ RelV (.int j) vq := by
        match vs, hkv with
        | [(kq, vq)], .cons h1 .nil => exact ⟨kq, vq, rfl, h1.1, h1.2⟩
      · cases hl : es.toList with
        | nil =>
          rw [hl] at hp
          cases hp
        | cons e1 r1 =>
          rw [hl] at hp
          cases hp with
          | cons hk1 hv1 hr1 =>
            cases hr1
            subst ek
            obtain ⟨t, ev⟩ := rv
            have ev' : e1.val = .int j t := hv1.trans ev
            rcases keyIs_shape (show keyIs (.inl i) e1.key = true from hk1) with ⟨i', t', e2, e3⟩ | ⟨x', t', e2, e3⟩
            · have ei : i = i' := Sum.inl.inj e2
              subst ei
              refine Reads.dict (as := [] ++ []) (bs := [] ++ []) ho hc hdat ?_ ?_
              · rw [hl]
                show ReadsAll s.heap [e1.key] [PyData.int i] _
                rw [e3]
                exact .cons (.int i t') .nil
              · rw [hl]
                show ReadsAll s.heap [e1.val] [PyData.int j] _
                rw [ev']
                exact .cons (.int j t) .nil
            · cases e2
  refine ⟨rd, fun hm => ?_⟩
  rw [List.append_nil] at hm
  have e := List.mem_singleton.mp hm
  rw [← e] at nsm
  simp at nsm
theorem no_app {a : Addr} {l m : List Addr} (h1 : a ∉ l) (h2 : a ∉ m) : a ∉ l ++ m := fun h => (List.mem_append.mp h).elim h1 h2
mutual
theorem Dz.reads (I : Inv X pins σ H s) : ∀ {v : V} {d : PyData} {u : Value}, Dz H v d → RelV v u → ∃ as, Reads s.heap u d as ∧ sysModules ∉ as
  | _, _, _, .non, r => by
    cases r
    exact ⟨_, .none, List.not_mem_nil⟩
  | _, _, _, .bl b, r => by
    cases r
    exact ⟨_, .bool b, List.not_mem_nil⟩
  | _, _, _, .int i, r => by
    obtain ⟨t, rfl⟩ := r
    exact ⟨_, .int i t, List.not_mem_nil⟩
  | _, _, _, .str x, r => by
    obtain ⟨t, rfl⟩ := r
    exact ⟨_, .str x t, List.not_mem_nil⟩
  | _, _, _, .lst (a := a) (xs := xs) na ha hd, r => by
    cases r
    have z : ObjOk X.prog X.w H s.heap a (.lst xs) := I.hok a _ ha
    obtain ⟨_, its, n, rv, e⟩ := z
    obtain ⟨as, q, no⟩ := DzAll.reads I hd rv
    exact ⟨_, .list e rfl rfl q, fun h => (List.mem_cons.mp h).elim (fun e => na e.symm) no⟩
  | _, _, _, .tup (a := a) (xs := xs) ha hd, r => by
    cases r
    have z : ObjOk X.prog X.w H s.heap a (.tup xs) := I.hok a _ ha
    obtain ⟨_, its, rv, ob, e, c, n, dd⟩ := z
    obtain ⟨as, q, no⟩ := DzAll.reads I hd rv
    exact ⟨_, .tuple e c dd q, no⟩
  | _, _, _, .d0 (a := a) ha, r => by
    cases r
    exact ⟨_, d_reads I ha (.inl ⟨rfl, rfl⟩)⟩
  | _, _, _, .d1 (a := a) ha, r => by
    cases r
    exact ⟨_, d_reads I ha (.inr ⟨_, _, rfl, rfl⟩)⟩
theorem DzAll.reads (I : Inv X pins σ H s) : ∀ {vs : List V} {ds : List PyData} {us : List Value}, DzAll H vs ds → Vals vs us → ∃ as, ReadsAll s.heap us ds as ∧ sysModules ∉ as
  | _, _, _, .nil, r => by
    cases r
    exact ⟨_, .nil, List.not_mem_nil⟩
  | _, _, _, .cons h t, r => by
    cases r with
    | cons r1 r2 =>
      obtain ⟨as, q, no⟩ := Dz.reads I h r1
      obtain ⟨bs, q2, no2⟩ := DzAll.reads I t r2
      exact ⟨_, .cons q q2, no_app no no2⟩
end
end
def rReprZ : List V → Hp → VK → Prop := fun xs H Q => ∃ (x : V) (d : PyData), xs = [x] ∧ Dz H x d ∧ d.showable = true ∧ d.depth ≤ 64 ∧ d.shown.length ≤ sizeLine ∧ (∀ i, x = .int i → i.natAbs.log2 < 1920) ∧ Q (.str d.shown) H
theorem call_reprZ {X : Cx} (hg : Calm X.A) (hu : X.A.units + 70 < cLine) : CallR X (.builtin "repr") rReprZ := by
  intro pins s σ H xs us Q I r h
  obtain ⟨x, d, rfl, hd, hs, hdep, hsz, hi, q⟩ := h
  obtain ⟨u, rfl, rx⟩ := vals1 r
  obtain ⟨as, rd, no⟩ := Dz.reads I hd rx
  have go : ∀ a, u = .ref a → wpAny (model X.prog X.w) X.A (call (.builtin "repr") [u]) (EP X pins σ Q) X.xe s := fun a e => by
    subst e
    refine repr_of_reads' rd hs (fun _ => no) hg (by omega) (fun _ _ e => e) (fun h' u tk hk => ?_) hsz
    exact ⟨.str _, H, I.kept (t' := tk) hk, ⟨_, rfl⟩, q⟩
  cases hd with
  | non =>
    cases rx
    exact PySem.P.repr_of_none ⟨.str _, H, I.tok _, ⟨_, rfl⟩, q⟩
  | bl b =>
    cases rx
    refine PySem.P.repr_of_bool ⟨.str _, H, I.tok _, ⟨_, rfl⟩, ?_⟩
    cases b <;> exact q
  | int i =>
    obtain ⟨t, rfl⟩ := rx
    exact PySem.P.repr_of_int (hi i rfl) ⟨.str _, H, I.tok _, ⟨_, rfl⟩, q⟩
  | str z =>
    obtain ⟨t, rfl⟩ := rx
    exact PySem.P.repr_of_str ⟨.str _, H, I.tok _, ⟨_, rfl⟩, q⟩ hsz
  | lst _ _ _ => exact go _ rx
  | tup _ _ => exact go _ rx
  | d0 _ => exact go _ rx
  | d1 _ => exact go _ rx
theorem call_reprZK {X : Cx} {a : Addr} {oe : Obj} {pn : List (Addr × Obj)} (hg : Calm X.A) (hu : X.A.units + 70 < cLine) : CallR (kept X a oe pn) (.builtin "repr") rReprZ := call_reprZ (X := kept X a oe pn) hg hu
mutual
theorem Dz.same {H H' : Hp} (S : Same H H') : ∀ {v : V} {d : PyData}, Dz H v d → Dz H' v d
  | _, _, .non => .non
  | _, _, .bl b => .bl b
  | _, _, .int i => .int i
  | _, _, .str x => .str x
  | _, _, .lst na ha hd => .lst na (S _ _ ha) (DzAll.same S hd)
  | _, _, .tup ha hd => .tup (S _ _ ha) (DzAll.same S hd)
  | _, _, .d0 ha => .d0 (S _ _ ha)
  | _, _, .d1 ha => .d1 (S _ _ ha)
theorem DzAll.same {H H' : Hp} (S : Same H H') : ∀ {vs : List V} {ds : List PyData}, DzAll H vs ds → DzAll H' vs ds
  | _, _, .nil => .nil
  | _, _, .cons h t => .cons (Dz.same S h) (DzAll.same S t)
end
/-- small data, dicts within or not -/
structure Sz (k n : Nat) (d : PyData) : Prop where
  sh : d.showable = true
  ls : d.leavesShort 250 = true
  wt : d.weight ≤ n
  dp : d.depth ≤ k
structure SzAll (k n : Nat) (ds : List PyData) : Prop where
  sh : PyData.showableAll ds = true
  ls : PyData.leavesShortAll 250 ds = true
  wt : PyData.weightAll ds ≤ n
  dp : PyData.depthAll ds ≤ k
theorem Sm.z {k n : Nat} {d : PyData} (h : Sm k n d) : Sz k n d := ⟨h.sh, h.ls, h.wt, h.dp⟩
theorem Sz.up {k n k' n' : Nat} {d : PyData} (h : Sz k n d) (hk : k ≤ k') (hn : n ≤ n') : Sz k' n' d := ⟨h.sh, h.ls, Nat.le_trans h.wt hn, Nat.le_trans h.dp hk⟩
theorem sz_nil {k : Nat} : SzAll k 0 [] := ⟨by simp [PyData.showableAll], by simp [PyData.leavesShortAll], by simp [PyData.weightAll], by simp [PyData.depthAll]⟩
theorem sz_cons {k a b : Nat} {d : PyData} {ds : List PyData} (h : Sz k a d) (t : SzAll k b ds) : SzAll k (a + 1 + b) (d :: ds) := by
  refine ⟨by simp [PyData.showableAll, h.sh, t.sh], by simp [PyData.leavesShortAll, h.ls, t.ls], ?_, ?_⟩
  · have := h.wt
    have := t.wt
    simp only [PyData.weightAll]
    omega
  · have := h.dp
    have := t.dp
    simp only [PyData.depthAll]
    omega
theorem sz_list {k n : Nat} {ds : List PyData} (t : SzAll k n ds) : Sz (k + 1) n (.list ds) :=
  ⟨by simp [PyData.showable, t.sh], by simp [PyData.leavesShort, t.ls], by simp [PyData.weight, t.wt], by have := t.dp; simp only [PyData.depth]; omega⟩
theorem sz_tup {k n : Nat} {ds : List PyData} (t : SzAll k n ds) : Sz (k + 1) n (.tuple ds) :=
  ⟨by simp [PyData.showable, t.sh], by simp [PyData.leavesShort, t.ls], by simp [PyData.weight, t.wt], by have := t.dp; simp only [PyData.depth]; omega⟩
theorem sz_d0 {k : Nat} : Sz (k + 1) 0 (.dict []) := ⟨by simp [PyData.showable, PyData.showableKv], by simp [PyData.leavesShort, PyData.leavesShortKv], by simp [PyData.weight, PyData.weightKv], by simp [PyData.depth, PyData.depthKv]⟩
theorem sz_d1 {k : Nat} {i j : Int} (a : -(2 ^ 200) < i) (b : i < 2 ^ 200) (c : -(2 ^ 200) < j) (d : j < 2 ^ 200) : Sz (k + 1) 404 (.dict [(.int i, .int j)]) := by
  have x := sm_int (k := 0) a b
  have y := sm_int (k := 0) c d
  refine ⟨by simp only [PyData.showable, PyData.showableKv] at x y ⊢; rw [show decide (i.natAbs.log2 < 1920) = true by have := x.sh; simpa [PyData.showable] using this, show decide (j.natAbs.log2 < 1920) = true by have := y.sh; simpa [PyData.showable] using this]; rfl,
    by simp only [PyData.leavesShort, PyData.leavesShortKv]; rw [show decide ((PyData.shown (.int i)).length ≤ 250) = true by have := x.ls; simpa only [PyData.leavesShort] using this, show decide ((PyData.shown (.int j)).length ≤ 250) = true by have := y.ls; simpa only [PyData.leavesShort] using this]; rfl, ?_, ?_⟩
  · have := x.wt
    have := y.wt
    simp only [PyData.weight, PyData.weightKv] at *
    omega
  · simp [PyData.depth, PyData.depthKv]
theorem Sz.text {k n : Nat} {d : PyData} (h : Sz k n d) (hn : n ≤ 50000) : d.shown.length ≤ sizeLine := by
  have e := PyData.shown_le 250 (by decide) d h.ls
  have w := h.wt
  rw [sizeLine_eq]
  omega
theorem rd_reprZ {H : Hp} {Q : VK} {v : V} {d : PyData} {k n : Nat} (h : Dz H v d) (s : Sz k n d) (hk : k ≤ 60) (hn : n ≤ 50000) (q : Q (.str d.shown) H) : rReprZ [v] H Q := by
  refine ⟨v, d, rfl, h, s.sh, by have := s.dp; omega, s.text hn, fun i e => ?_, q⟩
  subst e
  cases h
  have z := s.sh
  simp only [PyData.showable, decide_eq_true_eq] at z
  exact z
/-- a list's display, told that it is no module table -/
def tLstN (t : TA) : TE := fun σ H Q => t σ H fun xs H1 => xs.length ≤ sizeLine ∧ ∀ p, p ≠ sysModules → H1 p = none → Q (.ref p) (upd H1 p (.lst xs))
theorem pe_lstN {X : Cx} {es : List Expr} {t : TA} {pos : Pos} (h : PA X es t) : PE X (.List es pos) (tLstN t) := by
  constructor
  intro pins s σ H Q I hq
  refine wpAny_List_spliced (thn (h.run pos pins s σ H _ I hq) fun us s1 z => ?_)
  obtain ⟨xs, H1, J, r, z, q⟩ := z
  have fresh := J.hok.fresh (Nat.le_refl s1.heap.objs.size)
  exact ⟨r.length ▸ z, .ref s1.heap.objs.size, upd H1 s1.heap.objs.size (.lst xs), J.laid (t' := s1.toks) (fun _ _ e => Heap.get?_push_of_some _ e) (Nat.le_refl _) ⟨z, us, 0, r, Heap.get?_push_size _ rfl⟩, rfl, q _ (Nat.ne_of_gt J.big) fresh⟩
/-! ### the keeping try, its wish told how many slots there are -/
/-- what a try that keeps its error wishes of one that its body raises -/
def wKeepL (K : PySem.W.Frag) (c : Value) (n : Nat) (i : Nat) (ts tk : Addr → Value → Option Addr → TS) (D : Ends) : WX := fun cls d σ H =>
  PySem.W.exmOne K cls c = some true ∧ ∀ a, H a = none → σ.length = n → ts a cls d { nx := fun σ' H' => tk a cls d D (σ'.set i none) H', rt := fun _ _ => False } (σ.set i (some (.ref a))) H
section
variable {X : Cx} {x n : Str} {c : Value} {i : Nat} {body suite rest : List Stmt} {b₀ : Stmt} {np pos pos' : Pos} {tb : WX → TS} {ts tk : Addr → Value → Option Addr → TS} {t0 : TS}
/-- try: body / except x as n: suite, and what stands behind, read in the light of the error that was caught -/
theorem pss_keepL (hs : X.stack = X.env :: X.outer) (hf : X.env.frame = some X.env.locals) (hN : X.N.Nodup) (hi : X.N[i]? = some n) (hln : X.env.kindOf n = some .local) (hc : Names X x c)
    (hb : ∀ (W : WX) (pn : List (Addr × Obj)) (xe : Value → Shared → Prop), Takes (X.tr pn xe) W → PSs (X.tr pn xe) body (tb W))
    (hsu : ∀ (a : Addr) (oe : Obj) (cls : Value) (d : Option Addr) (pn : List (Addr × Obj)), Zc cls d oe → (∃ vs, oe.data = .fields vs) → PSs (X.suite a ((a, oe) :: pn)) (b₀ :: suite) (ts a cls d))
    (h0 : PSs X rest t0)
    (hk : ∀ (a : Addr) (oe : Obj) (cls : Value) (d : Option Addr) (pn : List (Addr × Obj)), Zc cls d oe → (∃ vs, oe.data = .fields vs) → PSs (kept X a oe pn) rest (tk a cls d)) :
    PSs X (.Try body [.ExceptHandler (some (.Name x np)) (some n) (b₀ :: suite) pos'] [] [] pos :: rest) (fun D σ H => tb (wKeepL X.K c X.N.length i ts tk D) { D with nx := t0 D } σ H) := by
  constructor
  intro pins s σ H D I h
  have ok := I.ok
  -- either as behind any statement, or with the error kept
  refine wpAny_execs_cons (thn (Q := fun fl s1 => SP X pins { D with nx := t0 D } fl s1 ∨ (fl = .next ∧ ∃ (a : Addr) (oe : Obj) (cls : Value) (d : Option Addr) (σ' : L2.St) (H' : Hp), Zc cls d oe ∧ (∃ vs, oe.data = .fields vs) ∧
    Inv (kept X a oe (X.pn ++ pins)) [] σ' H' s1 ∧ tk a cls d D σ' H')) ?_ fun fl s1 z => ?_)
  · have hfr : X.A.frames = some (X.env :: X.outer) := ok.frames.trans (congrArg some hs)
    refine wpAny_Try_except ?_
    refine wpAny_mono ((hb (wKeepL X.K c X.N.length i ts tk D) (X.pn ++ pins) _ (fun u s' xx => ?_)).run [] s σ H _ (I.toTry _) h) (fun fl s1 z => ?_) (fun e s1 he => he)
    · -- what the body raises is caught here
      obtain ⟨a, B, sI, pins', σ', H', cls, d, eu, J', nb, up, sky, na, os, ag, hyes, hgo⟩ := xx
      subst eu
      have J : Inv X pins σ' H' sI := J'.ofTry ok
      have air : Sky B (X.env :: X.outer) a (Zc cls d) X.env.locals s'.heap := hs ▸ sky
      refine Sky.land Zc.steady hfr hf air fun h1 fly1 up1 => ?_
      have J1 : Inv X pins σ' H' { s' with heap := h1 } := J.landed nb fly1.1 (up.trans up1) os ag
      obtain ⟨o1, v1, at1, z1, f1⟩ := fly1.there
      have off : a ∉ frs (X.env :: X.outer) := fun hm => by
        obtain ⟨_, o', e', no⟩ := fly1.2.2.1.mem hm
        rw [at1] at e'
        cases e'
        exact no _ f1
      have offL : a ≠ X.env.locals := fun z => off (List.mem_filterMap.mpr ⟨X.env, List.mem_cons_self, hf.trans (congrArg some z.symm)⟩)
      have offF : a ∉ X.fs := fun hm => by
        obtain ⟨e, m, q⟩ := List.mem_filterMap.mp hm
        exact off (List.mem_filterMap.mpr ⟨e, List.mem_cons_of_mem _ m, q⟩)
      have S1 := J1.suite at1 f1 na offL offF
      have cl : PySem.W.Looks (model X.prog X.w) h1 (typeOf (.ref a)) cls := fun A Q E s k q => wpAny_typeOf_ref (k _ _ at1) (z1.1.symm ▸ q)
      have fits := PySem.W.exm_one (M := model X.prog X.w) J1.kIn cl hyes
      have named : ∀ {Q : Value → Shared → Prop} {E : Value → Shared → Prop}, Q c { s' with heap := h1 } → wpAny (model X.prog X.w) (X.A.mark (some (.ref a))) (eval (.Name x np) X.env) Q E { s' with heap := h1 } := fun {Q E} q => by
        obtain ⟨g, nodb, m⟩ := hc
        rcases m with m | ⟨m, bt, nn⟩
        · exact ld_glob (X := X.suite a ((a, o1) :: (X.pn ++ pins))) S1 g m q nodb
        · exact ld_blt (X := X.suite a ((a, o1) :: (X.pn ++ pins))) S1 g m bt q nn nodb
      refine wpAny_handleBy_cons (codeAny_handlers_test (named (fits.here ?_))) (fun q => nomatch q)
      refine codeAny_handlers_suite_as (HandSPX.lands_againZ fly1 fun h2 fly2 up2 => ?_)
      obtain ⟨o2, v2, at2, z2, f2⟩ := fly2.there
      have S2 := (J.landed (s' := { s' with heap := h2 }) nb fly2.1 ((up.trans up1).trans up2) os ag).suite at2 f2 na offL offF
      refine store_ok (X := X.suite a ((a, o2) :: (X.pn ++ pins))) (v := .ref a) S2 hN hi (.inl hln) rfl (fun s3 S3 => ?_) (.inr hln)
      refine wpAny_mono ((hsu a o2 cls d (X.pn ++ pins) z2 ⟨_, f2⟩).run [] s3 _ H' _ S3 (hgo a na J.len)) (fun fl s4 z => ?_) (fun _ _ z => False.elim z)
      match fl, z with
      | .next, ⟨σ4, H4, S4, q4⟩ => exact gone_ok (X := kept X a o2 (X.pn ++ pins)) (kept_of ok S4) hN hi hln fun s5 J5 => .inr ⟨rfl, a, o2, cls, d, _, _, z2, ⟨_, f2⟩, J5, q4⟩
      | .brk, ⟨_, _, _, q4⟩ => exact False.elim q4
      | .cont, ⟨_, _, _, q4⟩ => exact False.elim q4
      | .ret _, ⟨_, _, _, _, _, q4⟩ => exact False.elim q4
    · match fl, z with
      | .next, ⟨σ', H', J', q⟩ => exact wpAny_execs_nil (.inl ⟨σ', H', J'.ofTry ok, q⟩)
      | .brk, ⟨σ', H', J', q⟩ => exact .inl ⟨σ', H', J'.ofTry ok, q⟩
      | .cont, ⟨σ', H', J', q⟩ => exact .inl ⟨σ', H', J'.ofTry ok, q⟩
      | .ret _, ⟨v, σ', H', J', r, q⟩ => exact .inl ⟨v, σ', H', J'.ofTry ok, r, q⟩
  · rcases z with z | ⟨rfl, a, oe, cls, d, σ', H', zc, hd, J, q⟩
    · match fl, z with
      | .next, ⟨σ', H', J, q⟩ => exact h0.run pins s1 σ' H' D J q
      | .brk, z => exact z
      | .cont, z => exact z
      | .ret _, z => exact z
    · exact thn ((hk a oe cls d (X.pn ++ pins) zc hd).run [] s1 σ' H' D J q) fun fl s2 z => sp_kept ok z
end
/-! ### a list times an int, told that it is no module table -/
def rRepN : R2 := fun x y H Q => ∃ l k xs, x = .ref l ∧ y = .int k ∧ H l = some (.lst xs) ∧ -(2 ^ 63) ≤ k ∧ k < 2 ^ 63 ∧ xs.length * k.toNat ≤ sizeLine ∧
  ∀ p, p ≠ sysModules → H p = none → Q (.ref p) (upd H p (.lst (List.replicate k.toNat xs).flatten))
theorem all_at_once (its : List Value) (m : Nat) : List.foldl (fun a b => a ++ b) #[] (List.replicate (if its.toArray.isEmpty = true then 0 else m) its.toArray) = (List.replicate m its).flatten.toArray := by
  have z := foldl_rep its m []
  rw [List.nil_append] at z
  cases its with
  | nil =>
    rw [← z]
    have no : ∀ j : Nat, List.foldl (fun a b : Array Value => a ++ b) #[] (List.replicate j #[]) = #[] := fun j => by
      induction j with
      | zero => rfl
      | succ j ih => rw [List.replicate_succ, List.foldl_cons]; simpa using ih
    simp [no]
  | cons a r =>
    rw [if_neg (by simp)]
    exact z
theorem op_repN {X : Cx} : OpR X (binaryOp .Mult) rRepN := by
  intro pins s σ H x y v u Q I rx ry h
  obtain ⟨l, k, xs, ex, ey, at_l, k1, k2, fits, q⟩ := h
  subst ex
  subst ey
  cases rx
  obtain ⟨t, et⟩ := ry
  subst et
  obtain ⟨_, its, n, rel, len, e⟩ := I.lstM at_l
  have fits' : its.toArray.size * k.toNat ≤ sizeLine := by
    rw [List.size_toArray, ← len]
    exact fits
  have cap : ¬ its.toArray.size * k.toNat > (2 ^ 63 - 1) / 8 := fun z => absurd (Nat.lt_of_lt_of_le z fits') (by decide)
  have idx : ¬ (!Builtin.List.listFitsIndex k) = true := by rw [fitsIndex_both k1 k2]; simp
  have long : ¬ Builtin.List.listTooLong (its.toArray.size * k.toNat) = true := by rw [notLongL fits']; simp
  refine wpAny_binaryOp_repeat_ref (T := "list") (U := "int") (by decide) ⟨_, e, rfl⟩ (fun s' => typeIs_int s' k t) noFill_list_mul
    F.fills_int_mul F.slot_int_rmul repeat_list F.slot_int_index.lookup ?_
  refine call_meets F.slot_int_rmul (typeIs_int s k t)
    F.entry_int_rmul (F.args_int_rmul_2 _ _) (int___rmul___int_list k t l its.toArray n) ⟨e, rfl, ⟨_, e, rfl⟩, ?_⟩
  refine call_meets F.slot_list_mul ⟨_, e, rfl⟩ F.entry_list_mul
    (F.args_list_mul_2 _ _) (AutoListH.list___mul___list_int_3 l its.toArray n k t idx cap long) ⟨e, ?_⟩
  rw [all_at_once]
  have sz : (List.replicate k.toNat xs).flatten.length ≤ sizeLine := by
    rw [PyProof.Rows.lm_len_rep_flat, Nat.mul_comm]
    exact fits
  exact ⟨.ref _, _, I.lnew (t' := s.toks) (rel.rep k.toNat) sz, rfl, q _ (Nat.ne_of_gt I.big) I.fresh⟩
/-! ### the law's own call, where one def makes lambdas: its table of code objects is tracked, too -/
/-- the script and the table alone are tracked, or the table -/
def trackT (a P : Addr) (o : HO) : Hp := fun b => if b = P then some (.tbl #[]) else if b = a then some o else none
def trackP (P : Addr) : Hp := fun b => if b = P then some (.tbl #[]) else none
theorem lawGT {Pr : Program} {w : World} {K : PySem.W.Frag} {mg mb : Str → Option Value} {k : Nat} {fa a c P : Addr} {fd : FuncData} {x : Str} {sp : Sp} {s : Shared} {us : List Value} {ns : List Int}
    (kin : K.In s.heap) (gl : s.heap.Ns mainGlobals mg) (bl : s.heap.Ns builtinsNs mb) (bb : ∀ x : Str, x ≠ "__name__" → mb x = bootBuiltins x) (lim : s.heap.NoLimit) (gens : s.gens = #[])
    (tab : s.heap.get? P = some { cls := .none, data := .fields #[] }) (offP : K.lookup P = none) (hd : PySem.W.CodeHd s.heap c P)
    (bm : ∃ (bm : Addr) (ob : Obj), mg "__builtins__" = some (.ref bm) ∧ bm ≠ builtinsNs ∧ s.heap.get? bm = some ob ∧ ob.cls = .type "module" ∧ ob.dict = some builtinsNs ∧ ob.data = .plain)
    (ha : s.heap.get? a = some { cls := .type "list", data := .seq us.toArray }) (whole : IntsAre us ns) (line : ns.length ≤ sizeLine) (room : Room k callerA)
    (F : ∀ base : Heap, K.In base → base.Ns mainGlobals mg → LamX.TabB base mg c P → FnG Pr w K mg base CX0 k fa fd [x] sp)
    (bind : ∀ (s : Shared) (u : Value), BindsTo s fd ⟨[u], []⟩ [(x, u)])
    (hsp : ∀ H : Hp, H P = some (.tbl #[]) → SqL K H a (ns.map V.int) → sp [.ref a] H (fun v _ => v = .bl true) fun _ _ _ => False) :
    codeAny (model Pr w) callerA (.call (.ref fa) ⟨[.ref a], []⟩) (fun r s' => r = .ok (.ret (.bool true)) ∧ OldK s.heap s'.heap ∧ s'.os = s.os ∧ AllBare s'.gens) s := by
  have rel := vals_ints whole
  have size := whole.length
  have naP : a ≠ P := fun z => by
    rw [z, tab] at ha
    cases ha
  have go : ∀ H : Hp, H P = some (.tbl #[]) → SqL K H a (ns.map V.int) → HOk Pr w H s.heap → (∀ b u, H b = some u → (b = P ∧ u = .tbl #[]) ∨ (b = a ∧ K.lookup a = none ∧ ∃ o xs, u = .frz o (.lst xs))) →
      codeAny (model Pr w) callerA (.call (.ref fa) ⟨[.ref a], []⟩) (fun r s' => r = .ok (.ret (.bool true)) ∧ OldK s.heap s'.heap ∧ s'.os = s.os ∧ AllBare s'.gens) s := by
    intro H hP hS hok only
    -- what is neither the script nor the table is not tracked
    have free : ∀ {b : Addr} {o : Obj}, s.heap.get? b = some o → (∀ vs n, o.data ≠ .seq vs n) → o.data ≠ .fields #[] → H b = none := fun {b o} e n1 n2 => by
      cases q : H b with
      | none => rfl
      | some u =>
        rcases only b u q with ⟨z, _⟩ | ⟨z, _⟩
        · subst z
          rw [tab] at e
          cases e
          exact absurd rfl n2
        · subst z
          rw [ha] at e
          cases e
          exact absurd rfl (n1 _ _)
    have keepNs : ∀ {b : Addr} {m : Str → Option Value}, s.heap.Ns b m → (hidT s.heap H).Ns b m := fun {b m} z => by
      obtain ⟨o, es, n, e, d, r⟩ := z
      exact ⟨o, es, n, hidT_get e (free e (fun vs n z => by rw [d] at z; cases z) fun z => by rw [d] at z; cases z), d, r⟩
    have kinB : K.In (hidT s.heap H) := fun b o e => hidT_get (kin b o e) (by
      cases q : H b with
      | none => rfl
      | some u =>
        rcases only b u q with ⟨z, _⟩ | ⟨z, no, _⟩
        · subst z
          rw [offP] at e
          cases e
        · subst z
          rw [no] at e
          cases e)
    have limB : (hidT s.heap H).NoLimit := by
      obtain ⟨m, h1, h2⟩ := lim
      exact ⟨m, keepNs h1, h2⟩
    have tb : LamX.TabB (hidT s.heap H) mg c P := by
      refine ⟨?_, ?_, fun z => ?_⟩
      · obtain ⟨o, vs, file, tf, flags, tg, inF, text, tt, e, r1, r2, r3, r4⟩ := hd
        exact ⟨o, vs, file, tf, flags, tg, inF, text, tt, hidT_get e (free e (fun vs n z => by rw [r2] at z; cases z) fun z => by rw [r2] at z; cases z; simp at r3), r1, r2, r3, r4⟩
      · obtain ⟨m, ob, b1, b2, b3, b4, b5, b6⟩ := bm
        refine ⟨m, ob, b1, b2, fun z => ?_, fun z => ?_, hidT_get b3 (free b3 (fun vs n z => by rw [b6] at z; cases z) fun z => by rw [b6] at z; cases z), b4, b5, b6⟩
        · obtain ⟨o, es, n, e, d, _⟩ := gl
          rw [← z, b3] at e
          cases e
          rw [b6] at d
          cases d
        · rw [z, tab] at b3
          cases b3
          cases b6
      · obtain ⟨o, es, n, e, d, _⟩ := gl
        rw [z, tab] at e
        cases e
        cases d
    have e0 : Env0 Pr w K mg (hidT s.heap H) callerA [] s H :=
      { frames := rfl, mod := ⟨kinB, keepNs gl, ⟨mb, keepNs bl, bb⟩, limB⟩, bs := fun b o e => of_hidT e, bsz := Nat.le_of_eq (hidT_size _ _), funs := trivial,
        frf := fun b hb => (List.not_mem_nil (show b ∈ ([] : List Addr) from hb)).elim, hok := hok, bare := .of_eq gens }
    refine codeAny_mono ((F _ kinB (keepNs gl) tb).goes callerA rfl [] s H ⟨[.ref a], []⟩ [.ref a] [.ref a] _ _ room e0 (bind s (.ref a)) (.cons rfl .nil) (hsp H hP hS)) fun r s' z => ?_
    match r, z with
    | .error _, z => exact False.elim z
    | .ok .next, z => exact False.elim z
    | .ok .brk, z => exact False.elim z
    | .ok .cont, z => exact False.elim z
    | .ok (.ret u), z =>
      obtain ⟨v, H', os, bare, un, hok', rv, q⟩ := z
      have q' : v = .bl true := q
      subst q'
      obtain rfl : u = Value.bool true := rv
      -- the table has grown, perhaps
      have grown : ∃ more : Array Value, s'.heap.get? P = some { cls := .none, data := .fields more } := by
        obtain ⟨more, z⟩ := un.tbls P #[] hP
        exact ⟨_, hok' P _ z⟩
      have same : ∀ b o, b ≠ P → s.heap.get? b = some o → s'.heap.get? b = some o := fun b o nb e => by
        cases q : H b with
        | none => exact un.keep b o e q List.not_mem_nil List.not_mem_nil
        | some u =>
          rcases only b u q with ⟨z, _⟩ | ⟨_, _, ob, xs, eu⟩
          · exact absurd z nb
          · subst eu
            have h1 := (hok b _ q).1
            have h2 := (hok' b _ (un.frzs b ob _ q)).1
            rw [e] at h1
            rw [h2, ← Option.some.inj h1]
      obtain ⟨more, hm⟩ := grown
      refine ⟨rfl, ⟨fun b o e => ?_, fun b o e => ?_⟩, os, bare⟩
      · by_cases hb : b = P
        · subst hb
          rw [tab] at e
          cases e
          exact .inr (.inl ⟨(hd.tab tab).isCodeTable, rfl, #[], more, rfl, by rw [Array.empty_append]; exact hm⟩)
        · exact .inl (same b o hb e)
      · by_cases hb : b = P
        · subst hb
          exact ⟨_, hm⟩
        · exact ⟨o, same b o hb e⟩
  cases hk : K.lookup a with
  | none =>
    have atP : trackT a P (.frz { cls := .type "list", data := .seq us.toArray } (.lst (ns.map V.int))) P = some (.tbl #[]) := if_pos rfl
    have atA : trackT a P (.frz { cls := .type "list", data := .seq us.toArray } (.lst (ns.map V.int))) a = some (.frz { cls := .type "list", data := .seq us.toArray } (.lst (ns.map V.int))) := (if_neg naP).trans (if_pos rfl)
    have off : ∀ b, b ≠ P → b ≠ a → trackT a P (.frz { cls := .type "list", data := .seq us.toArray } (.lst (ns.map V.int))) b = none := fun b h1 h2 => (if_neg h1).trans (if_neg h2)
    refine go _ atP (.inl (.inr ⟨_, atA⟩)) (fun b u z => ?_) fun b u z => ?_
    · by_cases h1 : b = P
      · subst h1
        cases atP.symm.trans z
        exact tab
      · by_cases h2 : b = a
        · subst h2
          cases atA.symm.trans z
          exact ⟨ha, by rw [List.length_map]; exact line, us, _, rel, ha⟩
        · rw [off b h1 h2] at z
          cases z
    · by_cases h1 : b = P
      · subst h1
        cases atP.symm.trans z
        exact .inl ⟨rfl, rfl⟩
      · by_cases h2 : b = a
        · subst h2
          cases atA.symm.trans z
          exact .inr ⟨rfl, hk, _, _, rfl⟩
        · rw [off b h1 h2] at z
          cases z
  | some o =>
    have e := kin a o hk
    rw [ha] at e
    have e' := Option.some.inj e
    subst e'
    have small : us.toArray.size ≤ sizeLine := by rw [List.size_toArray, size]; exact line
    have atP : trackP P P = some (.tbl #[]) := if_pos rfl
    refine go (trackP P) atP (.inr ⟨_, us.toArray, _, hk, rfl, rfl, rfl, small, by simpa using rel⟩) (fun b u z => ?_) fun b u z => ?_
    · by_cases h1 : b = P
      · subst h1
        cases atP.symm.trans z
        exact tab
      · rw [show trackP P b = none from if_neg h1] at z
        cases z
    · by_cases h1 : b = P
      · subst h1
        cases atP.symm.trans z
        exact .inl ⟨rfl, rfl⟩
      · rw [show trackP P b = none from if_neg h1] at z
        cases z
/-- what k_head leaves, from the law's promise -/
theorem walkGT {l : PySem.W.OpenLaw} {n k : Nat} {q : Program} {loose : List Str} {XP : (Str → Option Value) → Heap → Prop} {YP : World → Heap → Prop} {d d' : DefRec} {K : Params → PySem.W.Frag} {sp : PySem.W.Frag → Addr → Sp} {x y : Str} {c P : Addr}
    (most : l.most = some n) (line : n ≤ sizeLine) (nodef : d.params.defaults = []) (room : Room k callerA) (hY : ∀ (w : World) (h : Heap), YP w h → (K w.params).In h)
    (rec : (recsOf q).find? (fun e => e.name == y) = some d') (inK : ∀ w : World, PySem.W.tabIn (K w.params) y = some (c, P)) (offP : ∀ w : World, (K w.params).lookup P = none)
    (F : ∀ (w : World) (mg : Str → Option Value) (fa : Addr) (h : Heap), (K w.params).In h → h.Ns mainGlobals mg → mg d.name = some (.ref fa) →
      ∃ fd : FuncData, (∀ (s : Shared) (u : Value), BindsTo s fd ⟨[u], []⟩ [(x, u)]) ∧
        ∀ base : Heap, (K w.params).In base → base.Ns mainGlobals mg → LamX.TabB base mg c P → FnG l.prog w (K w.params) mg base CX0 k fa fd [x] (sp (K w.params) P))
    (hsp : ∀ (K : PySem.W.Frag) (P : Addr) (H : Hp) (a : Addr) (ns : List Int), ns.length ≤ n → H P = some (.tbl #[]) → SqL K H a (ns.map V.int) → sp K P [.ref a] H (fun v _ => v = .bl true) fun _ _ _ => False) :
    PySem.W.WalkO q loose XP YP l.row.toRowW d [] (fun f vs => PySem.call f vs) := by
  refine Att.attach_call most nodef fun w s0 s1 mg mb fa o pm cd doc a vs ns G Y _ _ _ named obj whole few gens => ?_
  have kin := hY w _ Y
  obtain ⟨fd, bind, all⟩ := F w mg fa _ kin G.T.g named
  obtain ⟨hd, tab⟩ := PySem.W.tab_of G.T kin rec (inK w)
  exact lawGT kin G.T.g G.T.b G.T.builtins G.T.nolimit gens tab (offP w) hd G.T.bmain obj whole (Nat.le_trans few line) room all bind fun H hP hS => hsp _ _ H a ns few hP hS

/-! ### a def whose code is told -/
def FunC (K : PySem.W.Frag) (x qual : Str) (st : Stmt) (f : Addr) (fd : FuncData) (cd : Value) : Prop :=
  ∃ (oc : Value) (od : Option Addr) (kw doc pm : Value) (an : Option Addr) (ct : Value) (osl : Array (Option Value)), fd = PySem.W.fnOf x qual (defArgs st) (defBody st) (defScope st) .none kw doc pm an cd ct ∧ K.lookup f = some ⟨oc, od, .func fd, osl⟩ ∧ PySem.W.codeIn K cd qual = true
section
variable {P : Program} {w : World} {K : PySem.W.Frag} {mg : Str → Option Value} {base : Heap} {CX : CXT} {k : Nat} {f : Addr} {fd : FuncData} {ps : List Str} {sp : Sp}
/-- a def of the text, by its body, with no repr around -/
theorem Fun_okGc {cdc : Value} {x qual : Str} {st : Stmt} {N : List Str} (F : FunC K x qual st f fd cdc) (S : FnScope N ps (defScope st)) (len : ∀ vs H Q E, sp vs H Q E → vs.length = ps.length)
    (hbody : ∀ (A : Around) (fr : List Env) (s : Shared) (H : Hp) (vs : List V) (Q : VK) (E : XK), Calm A →
      Room k (A.deeper (envOfC qual (defScope st) s.heap.objs.size f cdc)) → sp vs H Q E →
        ∃ t, PSs (cxOf CX P w K mg base N qual (defScope st) f cdc A fr s H E).nox (defBody st) t ∧ t { nx := fun _ H' => Q .non H', rt := Q } (start N vs) H) :
    FnG P w K mg base CX (k + 1) f fd ps sp := by
  obtain ⟨oc, od, kw, doc, pm, an, ct, osl, rfl, at_f, hcd⟩ := F
  constructor
  · exact len
  intro A calm fr s H args us vs Q E room e0 binds rel hsp
  have hlen := len _ _ _ _ hsp
  have stays : ∀ b o, base.get? b = some o → s.heap.get? b = some o := fun b o e => (e0.bs b o e).1
  refine codeAny_call_function room.depth (e0.mod.kin.keeps stays _ _ at_f) rfl S.co S.gen rfl (PySem.W.codeRec_of (e0.mod.kin.keeps stays) hcd) (binds _ _ _ _ ?_)
  refine wpAny_newFunctionEnv_cells S.kind (fun ⟨n, v⟩ hy => ?_) fun env he s1 inC => ?_
  · cases S.par n (List.of_mem_zip hy).1 with
    | inl z => exact .inl z
    | inr z => exact .inr ⟨z, PySem.W.cellsFrom_some _ _ _ (.inl z)⟩
  subst he
  refine ⟨(e0.mod.nolimit.keeps stays).keeps inC.toInCall.keep, codeAny_func ?_⟩
  obtain ⟨t, ht, hq⟩ := hbody A fr s H vs Q E calm (room.deeper _) hsp
  refine wpAny_mono (ht.nox.run [] s1 (start N vs) H _ (inv_start (CX := CX) S room.hd e0 hlen rel inC) hq) (fun fl s' z => ?_) fun _ _ z => z
  match fl, z with
  | .ret _, ⟨v, _, H', J, rv, q⟩ => exact ⟨v, H', J.os, J.bare, J.base, J.hok, rv, q⟩
  | .next, ⟨_, H', J, q⟩ => exact ⟨.non, H', J.os, J.bare, J.base, J.hok, rfl, q⟩
  | .brk, ⟨_, _, _, q⟩ => exact q.elim
  | .cont, ⟨_, _, _, q⟩ => exact q.elim
end
/-! ### a lambda with one parameter, the last argument of a def of three -/
/-- one parameter b, no other name of its own: captured ones and globals -/
structure LamS1 (sc scope : Scope) (b : Str) : Prop where
  kind : scope.kind = .function
  co : scope.isCoroutine = false
  gen : scope.isGenerator = false
  own : ∀ y ∈ scope.names, (y.2 = .local → y.1 = b) ∧ y.2 ≠ .cell
  has : scope.names.lookup b = some .local
  free : ∀ y ∈ scope.names, y.2 = .free → sc.names.lookup y.1 = some .cell ∨ sc.names.lookup y.1 = some .free
def lamS1B (sc scope : Scope) (b : Str) : Bool :=
  decide (scope.kind = .function) && !scope.isCoroutine && !scope.isGenerator && decide (scope.names.lookup b = some .local) && scope.names.all fun y => (!decide (y.2 = .local) || decide (y.1 = b)) && !decide (y.2 = .cell) && (!decide (y.2 = .free) || decide (sc.names.lookup y.1 = some .cell) || decide (sc.names.lookup y.1 = some .free))
theorem lamS1_by {sc scope : Scope} {b : Str} (h : lamS1B sc scope b = true) : LamS1 sc scope b := by
  unfold lamS1B at h
  simp only [Bool.and_eq_true, Bool.or_eq_true, Bool.not_eq_true', decide_eq_true_eq, decide_eq_false_iff_not, List.all_eq_true] at h
  obtain ⟨⟨⟨⟨h1, h2⟩, h3⟩, hb⟩, h4⟩ := h
  refine ⟨h1, h2, h3, fun y hy => ⟨fun z => ?_, (h4 y hy).1.2⟩, hb, fun y hy e => ?_⟩
  · rcases (h4 y hy).1.1 with q | q
    · exact absurd z q
    · exact q
  · rcases (h4 y hy).2 with (z | z) | z
    · exact absurd e z
    · exact .inl z
    · exact .inr z
theorem LamS1.hasC {X : Cx} {scope : Scope} {b : Str} (L : LamS1 X.env.scope scope b) (ok : X.Ok) : ∀ y ∈ scope.names, y.2 = .free → ∃ c, X.env.cells.lookup y.1 = some c := fun y hy e => by
  rcases L.free y hy e with k | k
  · exact ok.has _ (.inl k)
  · exact ok.has _ (.inr k)
section
open LamX
variable {X : Cx} {pins : List (Addr × Obj)} {σ : L2.St} {H HZ : Hp} {s s1 : Shared}
theorem lam_start1 {A : Around} {outer : List Env} {E : XK} {scope : Scope} {f c' : Addr} {h₁ : Heap} {tk : Nat} {b : Str} {j : Nat} {v : V} {u : Value} (I : Inv X pins σ H s) (L : LamS1 X.env.scope scope b) (hj : ∀ i, X.N[i]? = some b → i = j) (hjl : X.N[j]? = some b)
    (e0 : Env0 X.prog X.w X.K X.mg X.base A outer s1 HZ) (hd : A.handled = none) (un : Un (frs X.stack) [] H HZ s.heap s1.heap) (hns : h₁.Ns s1.heap.objs.size fun y => ([(b, u)] : List (Str × Value)).reverse.lookup y) (rv : RelV v u)
    (kp : ∀ b o, s1.heap.get? b = some o → h₁.get? b = some o) :
    Inv (lamCx X A outer s1 HZ E scope f c') [] (σ.set j (some v)) HZ { s1 with heap := h₁, toks := tk } := by
  have hfree := L.hasC I.ok
  have cm : ∀ {y c}, (cloFrom X.env.cells scope.names []).lookup y = some c → X.env.cells.lookup y = some c := fun {y c} e => by
    rcases cloFrom_mem (PySem.mem_of_lookup e) with hm | ⟨h1, h2⟩
    · cases hm
    · obtain ⟨c1, hc⟩ := hfree _ h1 rfl
      have hc : X.env.cells.lookup y = some c1 := hc
      have e2 : c = c1 := by
        rw [h2, hc] <;> rfl
      rw [e2]
      exact hc
  have look : ∀ {y}, scope.names.lookup y = some .free → ∃ c, (cloFrom X.env.cells scope.names []).lookup y = some c := fun {y} hl => by
    have hy : (y, NameKind.free) ∈ scope.names := PySem.mem_of_lookup hl
    exact mem_lookup (cloFrom_has (cells := X.env.cells) (acc := []) hy)
  have cellK : ∀ {c : Addr} {v : Option Value}, H c = none → s.heap.IsCell c v → h₁.IsCell c v := fun {c v} n ⟨o, ho, hd⟩ => by
    obtain ⟨sl, q⟩ := un.any ho n (by simp)
    exact ⟨_, kp _ _ q, hd⟩
  have noA : ∀ b : Addr, b ∉ (lamCx X A outer s1 HZ E scope f c').ex := fun b z => absurd (show b ∈ ([] : List Addr) from z) (by simp)
  refine ⟨⟨e0.mod, L.kind, rfl, rfl, Nat.le_refl _, fun y z c e1 e2 => I.ok.inj y z c (cm e1) (cm e2), fun y hy => ?_, fun y c z _ => ?_, fun _ => hd, Around.frames_deeper e0.frames, .inr ⟨rfl, rfl⟩, fun b z => absurd z (noA b), e0.bs, e0.bsz, fun b _ _ => noA b,
      fun b z => absurd z (noA b), e0.funs, e0.frf⟩,
    rfl, e0.bare, Un.kept kp, ⟨_, hns, fun i y v' e1 e2 e3 => ?_⟩, fun y c e => ?_, e0.hok.fresh (Nat.le_refl _), fun y c e => ?_, fun q hq => absurd (show q ∈ ([] : List (Addr × Obj)) ++ [] from hq) (by simp), e0.hok.kept kp, (List.length_set ..).trans I.len⟩
  · have hy : scope.names.lookup y = some .cell ∨ scope.names.lookup y = some .free := hy
    rcases hy with hy | hy
    · exact absurd rfl (L.own _ (PySem.mem_of_lookup hy)).2
    · exact look hy
  · have z : false = true := z
    cases z
  · have e1 : X.N[i]? = some y := e1
    have e3 : Vis scope y := e3
    by_cases hyb : y = b
    · subst hyb
      obtain rfl := hj i e1
      have hlt : i < σ.length := by
        rw [I.len]
        exact (List.getElem?_eq_some_iff.mp e1).1
      rw [List.getElem?_set_self hlt] at e2
      cases e2
      exact ⟨u, rv, .inl ⟨L.has, by simp [List.lookup]⟩⟩
    · have hij : j ≠ i := fun z => by
        subst z
        rw [hjl] at e1
        cases e1
        exact hyb rfl
      rw [List.getElem?_set_ne hij] at e2
      obtain ⟨m, hn, hl⟩ := I.loc
      have k : scope.names.lookup y = some .free := by
        rcases e3 with k | k | k
        · exact absurd ((L.own _ (PySem.mem_of_lookup k)).1 rfl) hyb
        · exact absurd rfl (L.own _ (PySem.mem_of_lookup k)).2
        · exact k
      have hvis : Vis X.env.scope y := (L.free _ (PySem.mem_of_lookup k) rfl).elim (fun k => .inr (.inl k)) (fun k => .inr (.inr k))
      obtain ⟨w', r, q⟩ := hl i y v' e1 e2 hvis
      obtain ⟨c2, h2⟩ := look k
      refine ⟨w', r, .inr ⟨.inr k, c2, h2, ?_⟩⟩
      have c1 := cm h2
      rcases q with ⟨k', _⟩ | ⟨_, c3, e', z⟩
      · have k' : X.env.scope.names.lookup y = some .local := k'
        rcases L.free _ (PySem.mem_of_lookup k) rfl with k2 | k2 <;> rw [show X.env.scope.names.lookup y = _ from k2] at k' <;> cases k'
      · rw [c1] at e'
        cases e'
        exact cellK (I.freeC y _ c1) z
  · obtain ⟨w', z⟩ := I.cell y c (cm e)
    exact ⟨w', cellK (I.freeC y c (cm e)) z⟩
  · obtain ⟨v, o, ho, hd⟩ := I.cell y c (cm e)
    exact un.free c o ho (I.freeC y c (cm e)) (by simp)
/-- a(e), in the def that got the lambda -/
theorem pe_act1 {CXg : CXT} {Eg : XK} {Ng : List Str} {qg : Str} {sg : Scope} {g f c' : Addr} {cdg pm ctv : Value} {params : Arguments} {body e : Expr} {scope : Scope} {k i j : Nat} {a b : Str} {pn : List (Addr × Obj)} {xe : Value → Shared → Prop} {W : WX} {E : XK} {tb : TE} {t : TA} {p1 p2 : Pos}
    (I : Inv X pins σ H s) (L : LamS1 X.env.scope scope b) (hj : ∀ i, X.N[i]? = some b → i = j) (hjl : X.N[j]? = some b) (hf : s.heap.get? f = some (PySem.W.kla_obj "<lambda>" (X.env.qual ++ "<lambda>") params body scope (cloFrom X.env.cells scope.names []) pm c' ctv)) (hfn : H f = none) (hfr : f ∉ frs X.stack)
    (hbind : ∀ u : Value, bindArgs (PySem.W.kla_fn "<lambda>" (X.env.qual ++ "<lambda>") params body scope (cloFrom X.env.cells scope.names []) pm (.ref c') ctv) ⟨[u], []⟩ = pure [(b, u)])
    (tk : Takes ((cxOf CXg X.prog X.w X.K X.mg X.base Ng qg sg g cdg X.A X.stack s H Eg).tr pn xe) W) (hW : ∀ cls d σ' H', E cls d H' → W cls d σ' H') (hr : Room (k + 1) (X.A.deeper (envOfC qg sg s.heap.objs.size g cdg)))
    (hbody : ∀ (A : Around) (outer : List Env) (s : Shared) (H : Hp), Room k (A.deeper (lamEnv X scope s.heap.objs.size f c')) → PE (lamCx X A outer s H E scope f c') body tb)
    (hN : Ng[i]? = some a) (hv : Vis sg a) (ha : PA ((cxOf CXg X.prog X.w X.K X.mg X.base Ng qg sg g cdg X.A X.stack s H Eg).tr pn xe) [e] t) (hd : (a == ("__debug__" : Str)) = false := by decide) (hcd : (a == ("__classdict__" : Str)) = false := by decide)
    (he : starEach [e] ((cxOf CXg X.prog X.w X.K X.mg X.base Ng qg sg g cdg X.A X.stack s H Eg).tr pn xe).env = (false, eval e ((cxOf CXg X.prog X.w X.K X.mg X.base Ng qg sg g cdg X.A X.stack s H Eg).tr pn xe).env) :: starEach [] ((cxOf CXg X.prog X.w X.K X.mg X.base Ng qg sg g cdg X.A X.stack s H Eg).tr pn xe).env := by rfl) :
    PE ((cxOf CXg X.prog X.w X.K X.mg X.base Ng qg sg g cdg X.A X.stack s H Eg).tr pn xe) (.Call (.Name a p1) [e] [] p2)
      (fun σZ HZ Q => σZ[i]? = some (some (.ref f)) ∧ t σZ HZ fun vs H2 => ∃ v, vs = [v] ∧ H2 c' = some (CodeO c' (X.env.qual ++ "<lambda>")) ∧ tb (σ.set j (some v)) H2 Q) := by
  refine ⟨fun pinsZ sZ σZ HZ Q IZ h => ?_⟩
  obtain ⟨hs, ht⟩ := h
  refine wpAny_Call_Name_kw (thn ((pe_var (pos := p1) (i := i) hN hv hd hcd).run pinsZ sZ σZ HZ (fun v H1 => v = .ref f ∧ H1 = HZ) IZ ⟨.ref f, hs, rfl, rfl⟩) fun u s1 ⟨v, H1, I1, r1, q1⟩ => ?_)
  obtain ⟨ev, eH⟩ := q1
  subst ev
  rw [eH] at I1
  obtain rfl : u = Value.ref f := r1
  have of1 : s1.heap.get? f = some (PySem.W.kla_obj "<lambda>" (X.env.qual ++ "<lambda>") params body scope (cloFrom X.env.cells scope.names []) pm c' ctv) := I1.base.keep f _ hf hfn hfr (fun z => nomatch (show f ∈ ([] : List Addr) from z))
  refine PySem.W.callWith_F (first := []) ⟨_, _, _, _, of1⟩ (thn (ha.run p2 pinsZ s1 σZ HZ _ I1 ht) fun us s2 z => ?_) he rfl
  obtain ⟨vs, H2, I2, r, v, ev, hc, hq0⟩ := z
  subst ev
  cases r with
  | cons rv rn =>
  cases rn
  rename_i u
  have of2 : s2.heap.get? f = some (PySem.W.kla_obj "<lambda>" (X.env.qual ++ "<lambda>") params body scope (cloFrom X.env.cells scope.names []) pm c' ctv) := I2.base.keep f _ hf hfn hfr (fun z => nomatch (show f ∈ ([] : List Addr) from z))
  refine ⟨⟨_, _, _, _, of2⟩, ?_⟩
  have un : Un (frs X.stack) [] H H2 s.heap s2.heap := I2.base
  obtain ⟨⟨oc, vs', t', hoc, hdc, hvc⟩, _, _⟩ := I2.hok c' _ hc
  have rc : codeAny (model X.prog X.w) (X.A.deeper (envOfC qg sg s.heap.objs.size g cdg)) (.call (.ref f) ⟨[u], []⟩) (CR (L2.CX X.prog X.w) (envOfC qg sg s.heap.objs.size g cdg :: X.stack) X.prog X.w H2 s2 Q E) s2 := by
    refine PySem.W.kla_callFunE hr.depth of2 rfl L.co L.gen rfl ⟨c', oc, vs', t', rfl, hoc, hdc, hvc⟩ ?_
    rw [hbind]
    refine wpAny_pure (wpAny_newFunctionEnv (fun y hy => (L.own y hy).2) (fun y hy => by rw [List.mem_singleton.mp hy]; exact L.has) (fun h₁ hns hsb => ⟨I2.nolimit.fresh _ hsb, ?_⟩) L.kind)
    show codeAny _ _ (.expr body (lamEnv X scope s2.heap.objs.size f c')) _ _
    have kp : ∀ b o, s2.heap.get? b = some o → h₁.get? b = some o := fun b o e => hsb.extBut b o (Nat.ne_of_lt (Heap.lt_size e)) (Heap.get?_push_of_some _ e)
    have J : Inv (lamCx X (X.A.deeper (envOfC qg sg s.heap.objs.size g cdg)) (envOfC qg sg s.heap.objs.size g cdg :: X.stack) s2 H2 E scope f c') [] (σ.set j (some v)) H2 { s2 with heap := h₁, toks := s2.toks + ([(b, u)] : List (Str × Value)).length } :=
      lam_start1 I L hj hjl I2.env0 hr.hd un hns rv kp
    refine PySem.W.kla_codeExpr (wpAny_mono ((hbody _ _ s2 H2 (hr.deeper _)).run [] _ _ H2 Q J hq0) (fun v s' hq => ?_) fun e s' hq => hq)
    obtain ⟨w', H', J', rv, q⟩ := hq
    exact ⟨w', H', J'.os, J'.bare, J'.base, J'.hok, rv, q⟩
  have hx : Passes (L2.CX X.prog X.w) ((cxOf CXg X.prog X.w X.K X.mg X.base Ng qg sg g cdg X.A X.stack s H Eg).tr pn xe) E := passes_call tk hW
  refine wpAny_call (codeAny_mono rc fun r s' hq => ?_)
  cases r with
  | error e => exact hx pinsZ σZ H2 s2 e s' I2 hq
  | ok fl =>
    cases fl with
    | ret u => exact I2.after hq
    | next => exact False.elim hq
    | brk => exact False.elim hq
    | cont => exact False.elim hq
/-- the def of three that calls the lambda which it got last: a calls it; TT: what it makes of the two values and the lambda's reading -/
def Gives3 (X : Cx) (Ng : List Str) (x : Str) (sg : Scope) (g : Addr) (cdg : Value) (bg : List Stmt) (a : Str) (q : Str) (TT : V → V → (V → Hp → VK → Prop) → Hp → VK → Prop) : Prop :=
  ∀ (f c' : Addr) (s : Shared) (H : Hp) (Q : VK) (v1 v2 : V) (tl : V → Hp → VK → Prop),
    (∀ (e : Expr) (t : TA) (p1 p2 : Pos), PA (cxOf C8.CX0 X.prog X.w X.K X.mg X.base Ng x sg g cdg X.A X.stack s H C8.E0).nox [e] t → starEach [e] (cxOf C8.CX0 X.prog X.w X.K X.mg X.base Ng x sg g cdg X.A X.stack s H C8.E0).nox.env = (false, eval e (cxOf C8.CX0 X.prog X.w X.K X.mg X.base Ng x sg g cdg X.A X.stack s H C8.E0).nox.env) :: starEach [] (cxOf C8.CX0 X.prog X.w X.K X.mg X.base Ng x sg g cdg X.A X.stack s H C8.E0).nox.env →
      PE (cxOf C8.CX0 X.prog X.w X.K X.mg X.base Ng x sg g cdg X.A X.stack s H C8.E0).nox (.Call (.Name a p1) [e] [] p2) (fun σZ HZ Q => σZ[2]? = some (some (.ref f)) ∧ t σZ HZ fun vs H2 => ∃ v, vs = [v] ∧ H2 c' = some (CodeO c' q) ∧ tl v H2 Q)) →
    H c' = some (CodeO c' q) → TT v1 v2 tl H Q →
    ∃ t, PSs (cxOf C8.CX0 X.prog X.w X.K X.mg X.base Ng x sg g cdg X.A X.stack s H C8.E0).nox bg t ∧ t { nx := fun _ H' => Q .non H', rt := Q } (L2.start Ng [v1, v2, .ref f]) H
def tLam3 (T : List (Addr × Str)) (TT : V → V → (V → Hp → VK → Prop) → Hp → VK → Prop) (t1 t2 : TE) (j : Nat) (tb : TE) : TE := fun σ H Q => t1 σ H fun v1 H1 => t2 σ H1 fun v2 H2 => Tabs T H2 ∧ ∀ H3, ExtN H2 H3 → Tabs T H3 → TT v1 v2 (fun v H' Q' => tb (σ.set j (some v)) H' Q') H3 Q
/-- x(e1, e2, lambda b: body) -/
theorem pe_lamcall3 {T : List (Addr × Str)} {TT : V → V → (V → Hp → VK → Prop) → Hp → VK → Prop} {x a1 a2 a b : Str} {g c P : Addr} {k j : Nat} {pg : Arguments} {bg : List Stmt} {sg : Scope} {dV kV doc pm cdv ct oc : Value} {an od : Option Addr} {osl : Array (Option Value)} {Ng : List Str}
    {params : Arguments} {body e1 e2 : Expr} {scope : Scope} {t1 t2 tb : TE} {p lpos pos : Pos} (hg : Gl X x) (hm : X.mg x = some (.ref g)) (hk : PySem.W.keepIn X.K (.ref g) = true)
    (lk : X.K.lookup g = some ⟨oc, od, .func (PySem.W.fnOf x x pg bg sg dV kV doc pm an cdv ct), osl⟩) (hcg : PySem.W.codeIn X.K cdv x = true) (hb : L2.Binds X.K (PySem.W.fnOf x x pg bg sg dV kV doc pm an cdv ct) [a1, a2, a] []) (Sg : FnScope Ng [a1, a2, a] sg) (hNg : Ng[2]? = some a) (hva : Vis sg a)
    (h1 : PE X e1 t1) (h2 : PE X e2 t2)
    (hG : Gives3 X Ng x sg g cdv bg a (X.env.qual ++ "<lambda>") TT)
    (TB : TabB X.base X.mg c P) (hcode : X.env.code = .ref c) (hmT : (P, X.env.qual ++ "<lambda>") ∈ T) (hu : ∀ p ∈ T, p.1 = P → p.2 = X.env.qual ++ "<lambda>") (hr : Room (k + 2) X.A) (L : LamS1 X.env.scope scope b) (hj : ∀ i, X.N[i]? = some b → i = j) (hjl : X.N[j]? = some b) (hdef : defaultsOf params X.env = ([], []))
    (hbind : ∀ (q : Str) (cl : List (Str × Addr)) (pm cv ctv u : Value), bindArgs (PySem.W.kla_fn "<lambda>" q params body scope cl pm cv ctv) ⟨[u], []⟩ = pure [(b, u)])
    (hbody : ∀ (A : Around) (outer : List Env) (s : Shared) (H : Hp) (f c' : Addr), Room k (A.deeper (lamEnv X scope s.heap.objs.size f c')) → PE (lamCx X A outer s H (fun _ _ _ => False) scope f c') body tb)
    (hs1 : starEach [e1, e2, .Lambda params body scope lpos] X.env = (false, eval e1 X.env) :: starEach [e2, .Lambda params body scope lpos] X.env := by rfl) (hs2 : starEach [e2, .Lambda params body scope lpos] X.env = (false, eval e2 X.env) :: starEach [.Lambda params body scope lpos] X.env := by rfl)
    (hdb : (x == ("__debug__" : Str)) = false := by decide) (hd : (a == ("__debug__" : Str)) = false := by decide) (hcd : (a == ("__classdict__" : Str)) = false := by decide) :
    PE X (.Call (.Name x p) [e1, e2, .Lambda params body scope lpos] [] pos) (tLam3 T TT t1 t2 j tb) := by
  refine ⟨fun pins s σ H Q I h => ?_⟩
  refine wpAny_Call_Name_kw (ld_glob I hg hm ?_ hdb)
  refine PySem.W.callWith_K (h₀ := X.base) I.ok.mod.kin hk ?_ hs1 (by rw [hs2]; rfl)
  rw [hs1]
  show wpAny _ _ (spliced ((false, eval e1 X.env) :: backTo pos (starEach [e2, .Lambda params body scope lpos] X.env))) _ _ s
  refine Calls.spliced_cons (thn (h1.run pins s σ H _ I h) fun u1 s1 z => ?_)
  obtain ⟨v1, H1, I1, r1, q1⟩ := z
  rw [hs2]
  show wpAny _ _ (spliced ((false, eval e2 X.env) :: backTo pos (starEach [.Lambda params body scope lpos] X.env))) _ _ s1
  refine Calls.spliced_cons (thn (h2.run pins s1 σ H1 _ I1 q1) fun u2 s2 z => ?_)
  obtain ⟨v2, H2, I2, r2, hT, q2⟩ := z
  show wpAny _ _ (spliced ((false, eval (.Lambda params body scope lpos) X.env) :: backTo pos (starEach [] X.env))) _ _ s2
  refine Calls.spliced_cons (lam_make2 I2 TB hcode hmT hu hT hdef (L.hasC I2.ok) fun f c' pm' ctv H3 s' I3 eN T1 hf hfn hfr hco => ?_)
  refine Calls.spliced_nil ⟨I3.kIn, ?_⟩
  have rc : codeAny (model X.prog X.w) X.A (.call (.ref g) ⟨[u1, u2, .ref f], []⟩) (CR C8.CX0 X.stack X.prog X.w H3 s' Q C8.E0) s' := by
    refine run_ofS (N := Ng) (ps := [a1, a2, a]) (us := [u1, u2, .ref f]) (vs := [v1, v2, .ref f]) lk hcg Sg hr I3.env0 (hb s' [u1, u2, .ref f] I3.kIn rfl) (.cons r1 (.cons r2 (.cons rfl .nil))) rfl fun hr' => ?_
    obtain ⟨t3, ht3, hq3⟩ := hG f c' s' H3 Q v1 v2 (fun v H' Q' => tb (σ.set j (some v)) H' Q') (fun e t p1 p2 ha he => pe_act1 (i := 2) (pn := []) (xe := fun _ _ => False) (Eg := C8.E0) I3 L hj hjl hf hfn hfr (hbind _ _ _ _ _) LamX.takes0 (fun _ _ _ _ z => z) hr' (fun A outer s H hr2 => hbody A outer s H f c' hr2) hNg hva ha hd hcd he) hco (q2 H3 eN T1)
    exact ⟨t3, ht3.nox, hq3⟩
  refine wpAny_call (codeAny_mono rc fun r s2 hq => ?_)
  cases r with
  | error e => exact (show False from hq).elim
  | ok fl =>
    cases fl with
    | ret u => exact I3.after hq
    | next => exact False.elim hq
    | brk => exact False.elim hq
    | cont => exact False.elim hq
end
/-! ### class methods, a class called by a local name -/
section
variable {X : Cx} {CX : CXT} {k : Nat} {C p g f : Addr} {fd : FuncData} {ps : List Str} {mc : Value} {sp : Sp} {E : XK} {o e : Expr} {es : List Expr} {m : Str} {pos apos : Pos} {ta : TE} {t : TA} {pl : Sem Bool}
theorem pe_cmethF (he : PE X o ta) (r : ClX.CRead X.K C mc) (c : ClX.CMet X.K C mc m p g) (F : FnOk X.prog X.w X.K X.mg X.base CX k g fd ps sp) (hr : Room k X.A) (hb : Binds X.K fd ps []) (hx : Passes CX X E) (ha : PA X (e :: es) t)
    (hst : starEach (e :: es) X.env = (false, eval e X.env) :: starEach es X.env := by rfl) (hpl : (backTo pos (starEach es X.env)).any (·.1) = false := by rfl)
    (ht : eval (.Call (.Attribute o m apos) (e :: es) [] pos) X.env = (do
      let ov ← eval o X.env
      standAt apos.atName
      let (f, first) ← holding [ov] (getMethod ov m pl)
      callWith pos f first (backTo pos (starEach (e :: es) X.env)) (backToKw pos (keywordEach [] X.env))) := by rfl) :
    PE X (.Call (.Attribute o m apos) (e :: es) [] pos) (ClX.tCMeth C (fun vs H Q E => sp (vs ++ []) H Q E) E ta t) :=
  ClX.pe_cmeth (pl := pl) he r c (F.raw hb .nil) hr hx ha hst hpl ht
def tMakeL (C : Addr) (sp : Sp) (E : XK) (ta : TE) (t : TA) : TE := fun σ H Q => ta σ H fun v H1 => v = .ref C ∧ tMake C sp [] E t σ H1 Q
theorem pe_makeL {x : Str} {p2 : Pos} (hx' : PE X (.Name x p2) ta) (M : Mk X.K C f) (F : FnOk X.prog X.w X.K X.mg X.base CX k f fd ps sp) (hr : Room (k + 1) X.A) (hb : Binds X.K fd ps []) (hx : Passes CX X E)
    (ha : PA X (e :: es) t) (he : starEach (e :: es) X.env = (false, eval e X.env) :: starEach es X.env := by rfl) (hpl : (backTo pos (starEach es X.env)).any (·.1) = false := by rfl) :
    PE X (.Call (.Name x p2) (e :: es) [] pos) (tMakeL C sp E ta t) := by
  refine ⟨fun pins s σ H Q I h => ?_⟩
  refine wpAny_Call_Name_kw (thn (hx'.run pins s σ H _ I h) fun u s1 z => ?_)
  obtain ⟨v, H1, I1, rx, ev, q⟩ := z
  subst ev
  obtain rfl : u = Value.ref C := rx
  refine PySem.W.callWith_K (h₀ := X.base) I.ok.mod.kin M.kp (thn (ha.run pos pins s1 σ H1 _ I1 q) fun us s2 ⟨vs, H2, I2, r, q2⟩ => ⟨I2.kIn, ?_⟩) he hpl
  exact run_make M F hr hb .nil hx I2 r q2
end
/-! ### a text repeated -/
theorem op_repS {X : Cx} : OpR X (binaryOp .Mult) (fun x y H Q => ∃ (a : Str) (i : Int), x = .str a ∧ y = .int i ∧ PySem.MulOk a i ∧ Q (.str (Txt.mul a i)) H) := by
  intro pins s σ H x y v u Q I rx ry h
  obtain ⟨a, i, rfl, rfl, ok, q⟩ := h
  obtain ⟨t, rfl⟩ := rx
  obtain ⟨t2, rfl⟩ := ry
  exact PySem.SB.mul ok fun t' k => ⟨.str _, H, I.tok _, ⟨_, rfl⟩, q⟩
theorem nines : ∀ k ∈ List.range 18, 1 ≤ k → PySem.intText? (Txt.mul "9" ((k : Nat) : Int)) = some (10 ^ k - 1) ∧ (Txt.mul "9" ((k : Nat) : Int)).length ≤ 640 := by decide +kernel
theorem nine {n : Int} (h1 : 1 ≤ n) (h2 : n ≤ 17) : PySem.intText? (Txt.mul "9" n) = some (10 ^ n.toNat - 1) ∧ (Txt.mul "9" n).length ≤ 640 := by
  obtain ⟨k, rfl⟩ := Int.eq_ofNat_of_zero_le (show 0 ≤ n by omega)
  exact nines k (List.mem_range.mpr (by omega)) (by omega)
theorem nine_ok {n : Int} (h1 : 1 ≤ n) (h2 : n ≤ 17) : PySem.MulOk "9" n := mulOk_of 16 1048576 (by decide +kernel) (by omega) (by omega) (by decide) (by decide)
section
variable {K : PySem.W.Frag} {H : Hp} {p : Addr}
theorem rd_for {wi : TI} {g : TG} {tb : TS} {D : Ends} {σ : L2.St} (k : wi σ H fun J H1 => ∃ W : Nat → Nat → L2.St → Hp → Prop, (∃ m, W 0 m σ H1) ∧ ∀ i m σ H, W i m σ H →
  (J.stop i H ∧ D.nx σ H) ∨ (J.go i H ∧ ∃ N : L2.St → Hp → Prop, (∀ σ' H', N σ' H' → ∃ m', m' < m ∧ W (i + 1) m' σ' H') ∧ ∀ x H', J.yld i H x H' → g x σ H' fun σ2 H2 => tb { D with nx := N, ct := N, bk := D.nx } σ2 H2)) : tFor wi g tb D σ H := k
theorem rd_iT {tl : TE} {σ : L2.St} {R : It → Hp → Prop} (k : tl σ H fun x H1 => ∃ a, x = .ref a ∧ (∃ xs, SqT K H1 a xs) ∧ R (Itt K a) H1) : iTup K tl σ H R := k
theorem rd_iL {tl : TE} {σ : L2.St} {R : It → Hp → Prop} (k : tl σ H fun x H1 => ∃ a, x = .ref a ∧ (∃ xs, SqL K H1 a xs) ∧ R (Itl K a) H1) : iList K tl σ H R := k
theorem rd_iTa {xs : List V} {R : Addr → Prop} (h : H p = some (.tup xs)) (k : R p) : ∃ a, V.ref p = .ref a ∧ (∃ xs, SqT K H a xs) ∧ R a := ⟨p, rfl, ⟨xs, SqT.of h⟩, k⟩
theorem rd_iLa {xs : List V} {R : Addr → Prop} (h : H p = some (.lst xs)) (k : R p) : ∃ a, V.ref p = .ref a ∧ (∃ xs, SqL K H a xs) ∧ R a := ⟨p, rfl, ⟨xs, SqL.of h⟩, k⟩
theorem rd_rng2 {tA : TA} {σ : L2.St} {R : It → Hp → Prop} (k : tA σ H fun vs H1 => ∃ i j : Int, vs = [.int i, .int j] ∧ (-(2 ^ 62) ≤ i ∧ i < 2 ^ 62 ∧ -(2 ^ 62) ≤ j ∧ j < 2 ^ 62) ∧ R (Itr i (j - i).toNat) H1) : iRng2 tA σ H R := k
theorem rd_rng1 {tA : TA} {σ : L2.St} {R : It → Hp → Prop} (k : tA σ H fun vs H1 => ∃ j : Int, vs = [.int j] ∧ -(2 ^ 62) ≤ j ∧ j < 2 ^ 62 ∧ R (Itr 0 j.toNat) H1) : iRng1 tA σ H R := k
theorem Pot.same {H H' : Hp} {p : Addr} {n : Nat} (h : Pot H p n) (s : Same H H') : Pot H' p n := by
  obtain ⟨x, z, c, a, b⟩ := h
  exact ⟨x, z, c, s _ _ a, b⟩
theorem rep_snoc {α : Type} (i : Nat) (x : α) : List.replicate i x ++ [x] = List.replicate (i + 1) x := by
  rw [List.replicate_succ']
theorem all_rep (i : Nat) : (List.replicate i true).all id = true := by
  induction i with
  | zero => rfl
  | succ n ih => rw [List.replicate_succ, List.all_cons, ih]; rfl
end
section
variable {P : Program} {w : World} {K : PySem.W.Frag} {mg : Str → Option Value} {base : Heap}
/-! ### k03: class methods that make kinds, or refuse -/
abbrev s_BadBits___init__ : Stmt := (inClass (top 4) 0)
abbrev N_BadBits___init__ : List Str := ["self", "value"]
abbrev P_BadBits___init__ : List Str := ["self", "value"]
theorem sc_BadBits___init__ : FnScope N_BadBits___init__ P_BadBits___init__ (defScope s_BadBits___init__) := ⟨rfl, rfl, rfl, by decide +kernel, rfl, by decide +kernel, by decide +kernel⟩
abbrev s_is_between : Stmt := (top 9)
abbrev N_is_between : List Str := ["value", "low", "high"]
abbrev P_is_between : List Str := ["value", "low", "high"]
theorem sc_is_between : FnScope N_is_between P_is_between (defScope s_is_between) := ⟨rfl, rfl, rfl, by decide +kernel, rfl, by decide +kernel, by decide +kernel⟩
abbrev s__power_of_ten : Stmt := (top 17)
abbrev N__power_of_ten : List Str := ["many", "power", "_"]
abbrev P__power_of_ten : List Str := ["many"]
theorem sc__power_of_ten : FnScope N__power_of_ten P__power_of_ten (defScope s__power_of_ten) := ⟨rfl, rfl, rfl, by decide +kernel, rfl, by decide +kernel, by decide +kernel⟩
abbrev s_Kind_signed : Stmt := (inClass (top 16) 1)
abbrev N_Kind_signed : List Str := ["cls", "bits", "half"]
abbrev P_Kind_signed : List Str := ["cls", "bits"]
theorem sc_Kind_signed : FnScope N_Kind_signed P_Kind_signed (defScope s_Kind_signed) := ⟨rfl, rfl, rfl, by decide +kernel, rfl, by decide +kernel, by decide +kernel⟩
abbrev s_Kind_unsigned : Stmt := (inClass (top 16) 2)
abbrev N_Kind_unsigned : List Str := ["cls", "bits"]
abbrev P_Kind_unsigned : List Str := ["cls", "bits"]
theorem sc_Kind_unsigned : FnScope N_Kind_unsigned P_Kind_unsigned (defScope s_Kind_unsigned) := ⟨rfl, rfl, rfl, by decide +kernel, rfl, by decide +kernel, by decide +kernel⟩
abbrev s_Kind_digits : Stmt := (inClass (top 16) 3)
abbrev N_Kind_digits : List Str := ["cls", "many"]
abbrev P_Kind_digits : List Str := ["cls", "many"]
theorem sc_Kind_digits : FnScope N_Kind_digits P_Kind_digits (defScope s_Kind_digits) := ⟨rfl, rfl, rfl, by decide +kernel, rfl, by decide +kernel, by decide +kernel⟩
abbrev s__law_doubled : Stmt := (top 22)
abbrev N__law_doubled : List Str := ["_law_many", "_law_found", "_law_lap"]
abbrev P__law_doubled : List Str := ["_law_many"]
theorem sc__law_doubled : FnScope N__law_doubled P__law_doubled (defScope s__law_doubled) := ⟨rfl, rfl, rfl, by decide +kernel, rfl, by decide +kernel, by decide +kernel⟩

/-- an error's class, called -/
def CalE (P : Program) (w : World) (K : PySem.W.Frag) (mg : Str → Option Value) (base : Heap) (C : Addr) (ps : List Str) : Prop :=
  ∃ (f : Addr) (fd : FuncData), PySem.W.findIn K (.ref C) "__init__" = some (some (.ref f)) ∧ PySem.W.typeIn K (.ref f) = some (.type "function") ∧ FnOk P w K mg base CX0 1 f fd ps (spBad C) ∧ Binds K fd ps []
theorem ok_BadBits {f C CW : Addr} {fd : FuncData} (F : Fun K "__init__" "BadBits.__init__" s_BadBits___init__ f fd) (ET : ErrT K mg CW C "BadBits") : FnOk P w K mg base CX0 1 f fd P_BadBits___init__ (spBad C) := by
  refine F.ok sc_BadBits___init__ (fun vs H Q E h => ?_) (fun cdv A outer s H vs Q E hr h => ?_)
  · obtain ⟨a, v, rfl, _⟩ := h
    rfl
  · obtain ⟨a, v, rfl, e, k⟩ := h
    refine ⟨_, (pss_one (ps_ost (pv 0) (pv 1))), ?_⟩
    unfold tOst
    fail "z go"
    exact rd_ost ET.ox ET.nv e k
def btw (v : V) (lo hi : Int) : Bool := match v with
  | .int n => decide (lo ≤ n) && decide (n ≤ hi)
  | _ => false
theorem btw_no {v : V} {lo hi : Int} (h : isI v = false) : btw v lo hi = false := by
  cases v <;> first | rfl | cases h
theorem isI_int {v : V} (h : isI v = true) : ∃ n, v = .int n := by
  cases v <;> first | exact ⟨_, rfl⟩ | cases h
theorem btw_yes {v : V} {lo hi : Int} (h : btw v lo hi = true) : ∃ n, v = .int n ∧ lo ≤ n ∧ n ≤ hi := by
  cases v with
  | int n =>
    have h : (decide (lo ≤ n) && decide (n ≤ hi)) = true := h
    rw [Bool.and_eq_true, decide_eq_true_eq, decide_eq_true_eq] at h
    exact ⟨n, rfl, h.1, h.2⟩
  | _ => cases h
def spBtw : Sp := fun vs H Q _ => ∃ (v : V) (lo hi : Int), vs = [v, .int lo, .int hi] ∧ Plain H v ∧ Q (.bl (btw v lo hi)) H
theorem ok_btw {f : Addr} {fd : FuncData} (F : Fun K "is_between" "is_between" s_is_between f fd) (c_is : Cal P w K mg base 1 "is_integer" P_is_integer spIsInt) : FnOk P w K mg base CX0 2 f fd P_is_between spBtw := by
  obtain ⟨f_is, fd_is, G_is_integer, b_is_integer, g_is_integer, k_is_integer⟩ := c_is
  refine F.ok sc_is_between (fun vs H Q E h => ?_) (fun cdv A outer s H vs Q E hr h => ?_)
  · obtain ⟨v, lo, hi, rfl, _⟩ := h
    rfl
  · obtain ⟨v, lo, hi, rfl, p, k⟩ := h
    refine ⟨_, (pss_one (ps_ret (pe_and (pe_call G_is_integer (hr.mono (by decide)) rfl g_is_integer k_is_integer b_is_integer .nil pass0 (pa_cons (pv 0) pa_nil)) (pe_one (pe_chain op_le op_le (pv 1) (pv 0) (pv 2)))))), ?_⟩
    fail "z run"
    refine ⟨_, rfl, p, ?_⟩
    fail "z run"
    refine rd_iteB (fun hb => ?_) (fun hb => ?_)
    · obtain ⟨n, rfl⟩ := isI_int hb
      fail "z run"
      refine rd_iteB (fun h1 => ?_) (fun h1 => ?_)
      · fail "z run"
        have e : btw (.int n) lo hi = decide (n ≤ hi) := by
          show (decide (lo ≤ n) && decide (n ≤ hi)) = _
          rw [h1, Bool.true_and]
        rw [← e]
        exact k
      · have e : btw (.int n) lo hi = false := by
          show (decide (lo ≤ n) && decide (n ≤ hi)) = _
          rw [h1, Bool.false_and]
        rw [← e]
        exact k
    · rw [btw_no hb] at k
      exact k
def spPowN (b : Int) : Sp := fun vs H Q _ => ∃ n : Int, vs = [.int n] ∧ 0 ≤ n ∧ n ≤ 60 ∧ Q (.int (b ^ n.toNat)) H
theorem pow_le60 {b : Int} (hb : 1 ≤ b) (hb2 : b ≤ 10) {i : Nat} (h : i ≤ 60) : 1 ≤ b ^ i ∧ b ^ i ≤ 10 ^ 60 := by
  have z : ∀ i : Nat, 1 ≤ b ^ i ∧ b ^ i ≤ 10 ^ i := fun i => by
    induction i with
    | zero => exact ⟨by simp, by simp⟩
    | succ i ih =>
      rw [Int.pow_succ, Int.pow_succ]
      refine ⟨?_, Int.mul_le_mul ih.2 hb2 (by omega) (by have := Int.pow_pos (n := 10) (m := i) (by decide); omega)⟩
      have := Int.mul_le_mul ih.1 hb (by omega) (by omega)
      omega
  refine ⟨(z i).1, Int.le_trans (z i).2 ?_⟩
  have e : ((10 : Int) ^ i) = ((10 ^ i : Nat) : Int) := by norm_cast
  rw [e]
  exact_mod_cast Nat.pow_le_pow_right (by decide) h
theorem ok_ten {f : Addr} {fd : FuncData} (F : Fun K "_power_of_ten" "_power_of_ten" s__power_of_ten f fd) (T : Txt mg) : FnOk P w K mg base CX0 1 f fd P__power_of_ten (spPowN 10) := by
  refine F.ok sc__power_of_ten (fun vs H Q E h => ?_) (fun cdv A outer s H vs Q E hr h => ?_)
  · obtain ⟨n, rfl, _⟩ := h
    rfl
  · obtain ⟨n, rfl, n0, n1, k⟩ := h
    refine ⟨_, (pss_cons (ps_set (i := 1) sc__power_of_ten.nd rfl (Or.inl rfl) pe_int)
      (pss_cons (ps_for PassesOwn.never rfl (pi_range1 rfl T.n_range (pa_cons (pv 0) pa_nil)) (pg_name (i := 2) sc__power_of_ten.nd rfl (Or.inl rfl)) (pss_one (ps_set (i := 1) sc__power_of_ten.nd rfl (Or.inl rfl) (pe_op op_mul (pv 1) pe_int))))
      (pss_one (ps_ret (pv 1))))), ?_⟩
    fail "z run"
    with_reducible refine rd_for ?_
    with_reducible refine rd_rng1 ?_
    fail "z run"
    refine ⟨by omega, by omega, for_range (lo := 0) (fun i σ H' => ∃ v, σ = [some (.int n), some (.int (10 ^ i)), v] ∧ H' = H) ⟨none, rfl, rfl⟩ ?_ ?_⟩
    · rintro i σ H' hi ⟨v, rfl, rfl⟩
      have z := pow_le60 (b := 10) (by decide) (by decide) (i := i) (by omega)
      fail "z run"
      have e : (10 : Int) ^ (i + 1) = 10 ^ i * 10 := Int.pow_succ ..
      rw [e]
      exact ⟨_, rfl, rfl⟩
    · rintro σ H' ⟨v, rfl, rfl⟩
      fail "z run"
      exact k
theorem ok_dbl {f : Addr} {fd : FuncData} (F : Fun K "_law_doubled" "_law_doubled" s__law_doubled f fd) (T : Txt mg) : FnOk P w K mg base CX0 1 f fd P__law_doubled (spPowN 2) := by
  refine F.ok sc__law_doubled (fun vs H Q E h => ?_) (fun cdv A outer s H vs Q E hr h => ?_)
  · obtain ⟨n, rfl, _⟩ := h
    rfl
  · obtain ⟨n, rfl, n0, n1, k⟩ := h
    refine ⟨_, (pss_cons (ps_set (i := 1) sc__law_doubled.nd rfl (Or.inl rfl) pe_int)
      (pss_cons (ps_for PassesOwn.never rfl (pi_range1 rfl T.n_range (pa_cons (pv 0) pa_nil)) (pg_name (i := 2) sc__law_doubled.nd rfl (Or.inl rfl)) (pss_one (ps_set (i := 1) sc__law_doubled.nd rfl (Or.inl rfl) (pe_op op_add (pv 1) (pv 1)))))
      (pss_one (ps_ret (pv 1))))), ?_⟩
    fail "z run"
    with_reducible refine rd_for ?_
    with_reducible refine rd_rng1 ?_
    fail "z run"
    refine ⟨by omega, by omega, for_range (lo := 0) (fun i σ H' => ∃ v, σ = [some (.int n), some (.int (2 ^ i)), v] ∧ H' = H) ⟨none, rfl, rfl⟩ ?_ ?_⟩
    · rintro i σ H' hi ⟨v, rfl, rfl⟩
      fail "z run"
      have e : (2 : Int) ^ (i + 1) = 2 ^ i + 2 ^ i := by
        rw [Int.pow_succ]
        omega
      rw [e]
      exact ⟨_, rfl, rfl⟩
    · rintro σ H' ⟨v, rfl, rfl⟩
      fail "z run"
      exact k
/-- C.m(v): the kind from lo n to hi n for an integer n from 1 to most, else BadBits(v) -/
def spClsN (C CB : Addr) (most : Int) (lo hi : Int → Int) : Sp := fun vs H Q E => ∃ v, vs = [.ref C, v] ∧ Plain H v ∧
  (∀ n, v = .int n → 1 ≤ n → n ≤ most → ∀ x H', H x = none → Same H H' → IsKind C H' x (lo n) (hi n) → Q (.ref x) H') ∧
  (btw v 1 most = false → ∀ d H', H d = none → Same H H' → H' d = some (.xd [("value", v)]) → E (.ref CB) (some d) H')
structure TxtB (mg : Str → Option Value) (tb td : Tok) : Prop where
  g_MOST_BITS : mg "MOST_BITS" = some (.int 56 tb)
  g_MOST_DIGITS : mg "MOST_DIGITS" = some (.int 17 td)
theorem ok_signed {f C CW C_BadBits : Addr} {tb td : Tok} {fd : FuncData} (F : Fun K "signed" "Kind.signed" s_Kind_signed f fd) (T : TxtB mg tb td) (ET_BadBits : ErrT K mg CW C_BadBits "BadBits") (c_btw : Cal P w K mg base 2 "is_between" P_is_between spBtw) (c_bad : CalE P w K mg base C_BadBits P_BadBits___init__) (c_kind : CalK P w K mg base C) :
    FnOk P w K mg base (L2.CX P w) 4 f fd P_Kind_signed (spClsN C C_BadBits 56 (fun n => -(2 ^ (n - 1).toNat)) fun n => 2 ^ (n - 1).toNat - 1) := by
  obtain ⟨f_b, fd_b, G_is_between, b_is_between, g_is_between, k_is_between⟩ := c_btw
  obtain ⟨f_e, fd_e, i_BadBits, t_BadBits, G_BadBits, b_BadBits⟩ := c_bad
  obtain ⟨f_kind, fd_kind, mk_Kind, G_Kind, b_Kind, g_Kind⟩ := c_kind
  have g_BadBits := ET_BadBits.g
  refine F.okX sc_Kind_signed (fun vs H Q E h => ?_) (fun cdv A outer s H vs Q E hr h => ?_)
  · obtain ⟨v, rfl, _⟩ := h
    rfl
  · obtain ⟨v, rfl, p, k1, k2⟩ := h
    refine ⟨_, (pss_cons (ps_if (pt_not (pt_val (pe_call G_is_between (hr.mono (by decide)) rfl g_is_between k_is_between b_is_between .nil pass0 (pa_cons (pv 1) (pa_cons pe_int (pa_cons (pe_glob (v := .int 56) rfl T.g_MOST_BITS ⟨_, rfl⟩) pa_nil)))))) (pss_one (ps_raise rfl (takes_of rfl rfl rfl rfl) (pmk_oex ET_BadBits.ox i_BadBits t_BadBits G_BadBits (hr.mono (by decide)) b_BadBits .nil pass0 rfl g_BadBits (pa_cons (pv 1) pa_nil)))) pss_nil)
      (pss_cons (ps_set (i := 2) sc_Kind_signed.nd rfl (Or.inl rfl) (pe_op op_shl pe_int (pe_op op_sub (pv 1) pe_int)))
      (pss_one (ps_ret (pe_makeL (pv 0) mk_Kind G_Kind (hr.mono (by decide)) b_Kind pass0 (pa_cons (pe_un un_neg (pv 2)) (pa_cons (pe_op op_sub (pv 2) pe_int) pa_nil))))))), ?_⟩
    unfold tMakeL tMkO
    fail "z run"
    refine ⟨_, _, _, rfl, p, ?_⟩
    fail "z run"
    refine rd_iteB (fun hb => ?_) (fun hb => ?_)
    · fail "z run"
      refine rd_bad fun d H' nd S ed => k2 ?_ d H' nd S ed
      cases q : btw v 1 56 with
      | false => rfl
      | true => rw [q] at hb; cases hb
    · obtain ⟨n, rfl, h1, h2⟩ := btw_yes (v := v) (lo := 1) (hi := 56) (by
        cases q : btw v 1 56 with
        | true => rfl
        | false => rw [q] at hb; cases hb)
      have z := pow_le60 (b := 2) (by decide) (by decide) (i := (n - 1).toNat) (by omega)
      fail "z run"
      refine ⟨rfl, ?_⟩
      fail "z run"
      simp only [Int.one_mul]
      refine rd_Kind (by omega) (by omega) fun x H' nx S ik => ?_
      exact k1 n rfl h1 h2 x H' nx S ik
theorem ok_unsigned {f C CW C_BadBits : Addr} {tb td : Tok} {fd : FuncData} (F : Fun K "unsigned" "Kind.unsigned" s_Kind_unsigned f fd) (T : TxtB mg tb td) (ET_BadBits : ErrT K mg CW C_BadBits "BadBits") (c_btw : Cal P w K mg base 2 "is_between" P_is_between spBtw) (c_bad : CalE P w K mg base C_BadBits P_BadBits___init__) (c_kind : CalK P w K mg base C) :
    FnOk P w K mg base (L2.CX P w) 4 f fd P_Kind_unsigned (spClsN C C_BadBits 56 (fun _ => 0) fun n => 2 ^ n.toNat - 1) := by
  obtain ⟨f_b, fd_b, G_is_between, b_is_between, g_is_between, k_is_between⟩ := c_btw
  obtain ⟨f_e, fd_e, i_BadBits, t_BadBits, G_BadBits, b_BadBits⟩ := c_bad
  obtain ⟨f_kind, fd_kind, mk_Kind, G_Kind, b_Kind, g_Kind⟩ := c_kind
  have g_BadBits := ET_BadBits.g
  refine F.okX sc_Kind_unsigned (fun vs H Q E h => ?_) (fun cdv A outer s H vs Q E hr h => ?_)
  · obtain ⟨v, rfl, _⟩ := h
    rfl
  · obtain ⟨v, rfl, p, k1, k2⟩ := h
    refine ⟨_, (pss_cons (ps_if (pt_not (pt_val (pe_call G_is_between (hr.mono (by decide)) rfl g_is_between k_is_between b_is_between .nil pass0 (pa_cons (pv 1) (pa_cons pe_int (pa_cons (pe_glob (v := .int 56) rfl T.g_MOST_BITS ⟨_, rfl⟩) pa_nil)))))) (pss_one (ps_raise rfl (takes_of rfl rfl rfl rfl) (pmk_oex ET_BadBits.ox i_BadBits t_BadBits G_BadBits (hr.mono (by decide)) b_BadBits .nil pass0 rfl g_BadBits (pa_cons (pv 1) pa_nil)))) pss_nil)
      (pss_one (ps_ret (pe_makeL (pv 0) mk_Kind G_Kind (hr.mono (by decide)) b_Kind pass0 (pa_cons pe_int (pa_cons (pe_op op_sub (pe_op op_shl pe_int (pv 1)) pe_int) pa_nil)))))), ?_⟩
    unfold tMakeL tMkO
    fail "z run"
    refine ⟨_, _, _, rfl, p, ?_⟩
    fail "z run"
    refine rd_iteB (fun hb => ?_) (fun hb => ?_)
    · fail "z run"
      refine rd_bad fun d H' nd S ed => k2 ?_ d H' nd S ed
      cases q : btw v 1 56 with
      | false => rfl
      | true => rw [q] at hb; cases hb
    · obtain ⟨n, rfl, h1, h2⟩ := btw_yes (v := v) (lo := 1) (hi := 56) (by
        cases q : btw v 1 56 with
        | true => rfl
        | false => rw [q] at hb; cases hb)
      have z := pow_le60 (b := 2) (by decide) (by decide) (i := n.toNat) (by omega)
      fail "z run"
      refine ⟨rfl, ?_⟩
      fail "z run"
      simp only [Int.one_mul]
      refine rd_Kind (by omega) (by omega) fun x H' nx S ik => ?_
      exact k1 n rfl h1 h2 x H' nx S ik
theorem ok_digits {f C CW C_BadBits : Addr} {tb td : Tok} {fd : FuncData} (F : Fun K "digits" "Kind.digits" s_Kind_digits f fd) (T : TxtB mg tb td) (ET_BadBits : ErrT K mg CW C_BadBits "BadBits") (c_btw : Cal P w K mg base 2 "is_between" P_is_between spBtw) (c_bad : CalE P w K mg base C_BadBits P_BadBits___init__) (c_kind : CalK P w K mg base C) (c_ten : Cal P w K mg base 1 "_power_of_ten" P__power_of_ten (spPowN 10)) :
    FnOk P w K mg base (L2.CX P w) 4 f fd P_Kind_digits (spClsN C C_BadBits 17 (fun _ => 0) fun n => 10 ^ n.toNat - 1) := by
  obtain ⟨f_b, fd_b, G_is_between, b_is_between, g_is_between, k_is_between⟩ := c_btw
  obtain ⟨f_e, fd_e, i_BadBits, t_BadBits, G_BadBits, b_BadBits⟩ := c_bad
  obtain ⟨f_kind, fd_kind, mk_Kind, G_Kind, b_Kind, g_Kind⟩ := c_kind
  obtain ⟨f_t, fd_t, G__power_of_ten, b__power_of_ten, g__power_of_ten, k__power_of_ten⟩ := c_ten
  have g_BadBits := ET_BadBits.g
  refine F.okX sc_Kind_digits (fun vs H Q E h => ?_) (fun cdv A outer s H vs Q E hr h => ?_)
  · obtain ⟨v, rfl, _⟩ := h
    rfl
  · obtain ⟨v, rfl, p, k1, k2⟩ := h
    refine ⟨_, (pss_cons (ps_if (pt_not (pt_val (pe_call G_is_between (hr.mono (by decide)) rfl g_is_between k_is_between b_is_between .nil pass0 (pa_cons (pv 1) (pa_cons pe_int (pa_cons (pe_glob (v := .int 17) rfl T.g_MOST_DIGITS ⟨_, rfl⟩) pa_nil)))))) (pss_one (ps_raise rfl (takes_of rfl rfl rfl rfl) (pmk_oex ET_BadBits.ox i_BadBits t_BadBits G_BadBits (hr.mono (by decide)) b_BadBits .nil pass0 rfl g_BadBits (pa_cons (pv 1) pa_nil)))) pss_nil)
      (pss_one (ps_ret (pe_makeL (pv 0) mk_Kind G_Kind (hr.mono (by decide)) b_Kind pass0 (pa_cons pe_int (pa_cons (pe_op op_sub (pe_call G__power_of_ten (hr.mono (by decide)) rfl g__power_of_ten k__power_of_ten b__power_of_ten .nil pass0 (pa_cons (pv 1) pa_nil)) pe_int) pa_nil)))))), ?_⟩
    unfold tMakeL tMkO
    fail "z run"
    refine ⟨_, _, _, rfl, p, ?_⟩
    fail "z run"
    refine rd_iteB (fun hb => ?_) (fun hb => ?_)
    · fail "z run"
      refine rd_bad fun d H' nd S ed => k2 ?_ d H' nd S ed
      cases q : btw v 1 17 with
      | false => rfl
      | true => rw [q] at hb; cases hb
    · obtain ⟨n, rfl, h1, h2⟩ := btw_yes (v := v) (lo := 1) (hi := 17) (by
        cases q : btw v 1 17 with
        | true => rfl
        | false => rw [q] at hb; cases hb)
      have z := pow_le60 (b := 10) (by decide) (by decide) (i := n.toNat) (by omega)
      fail "z run"
      refine ⟨rfl, ?_⟩
      fail "z run"
      refine ⟨n, rfl, by omega, by omega, ?_⟩
      fail "z run"
      refine rd_Kind (by omega) (by omega) fun x H' nx S ik => ?_
      exact k1 n rfl h1 h2 x H' nx S ik
def KpT (p : Addr) (H H' : Hp) : Prop := ∀ b o, b ≠ p → (∀ ps, o ≠ .tbl ps) → H b = some o → H' b = some o
theorem KpT.of {p : Addr} {H H' : Hp} (k : Kp p H H') : KpT p H H' := fun b o n _ e => k b o n e
theorem KpT.ofS {p : Addr} {H H' : Hp} (s : Same H H') : KpT p H H' := fun b o _ _ e => s b o e
theorem KpT.ofN {p : Addr} {H H' : Hp} (x : LamX.ExtN H H') : KpT p H H' := fun b o _ n e => x b o e n
theorem KpT.trans {p : Addr} {H H1 H2 : Hp} (a : KpT p H H1) (b : KpT p H1 H2) : KpT p H H2 := fun c o n t e => b c o n t (a c o n t e)
theorem IsKind.ext {C a : Addr} {H H' : Hp} {lo hi : Int} (h : IsKind C H a lo hi) (x : LamX.ExtN H H') : IsKind C H' a lo hi := by
  obtain ⟨dx, e⟩ := h
  exact ⟨dx, x _ _ e fun _ z => nomatch z⟩
theorem Pot.ext {H H' : Hp} {p : Addr} {n : Nat} (h : Pot H p n) (x : LamX.ExtN H H') : Pot H' p n := by
  obtain ⟨o, s, c, e, r⟩ := h
  exact ⟨o, s, c, x _ _ e (fun _ z => nomatch z), r⟩
theorem tabs_kp {T : List (Addr × Str)} {H H' : Hp} {p : Addr} {n : Nat} (t : LamX.Tabs T H) (hp : Pot H p n) (k : Kp p H H') : LamX.Tabs T H' := fun q hq => by
  obtain ⟨o, s, c, ep, _⟩ := hp
  obtain ⟨ps, h1, h2, h3⟩ := t q hq
  refine ⟨ps, k _ _ (fun z => by rw [z, ep] at h1; cases h1) h1, h2, fun pos cv hc => ?_⟩
  obtain ⟨c', e1, e2⟩ := h3 pos cv hc
  refine ⟨c', e1, k _ _ (fun z => ?_) e2⟩
  rw [z, ep] at e2
  unfold LamX.CodeO at e2
  cases e2
theorem tabs_upd {T : List (Addr × Str)} {H : Hp} {l : Addr} {xs : List V} {o : HO} (t : LamX.Tabs T H) (hl : H l = some (.lst xs)) : LamX.Tabs T (upd H l o) := fun q hq => by
  obtain ⟨ps, h1, h2, h3⟩ := t q hq
  refine ⟨ps, (upd_ne fun z => by rw [z, hl] at h1; cases h1).trans h1, h2, fun pos cv hc => ?_⟩
  obtain ⟨c', e1, e2⟩ := h3 pos cv hc
  refine ⟨c', e1, (upd_ne fun z => ?_).trans e2⟩
  rw [z, hl] at e2
  unfold LamX.CodeO at e2
  cases e2
theorem obj_kp {p t : Addr} {H H' : Hp} {n : Nat} {o : HO} (h : H t = some o) (hp : Pot H p n) (k : Kp p H H') (ne : ∀ a b c : Int, o ≠ .lst [.int a, .int b, .int c]) : H' t = some o := by
  obtain ⟨x, z, c, ep, _⟩ := hp
  exact k _ _ (fun q => by rw [q, ep] at h; exact ne _ _ _ (Option.some.inj h).symm) h
theorem IsKind.kp' {C a p : Addr} {H H' : Hp} {lo hi : Int} {n : Nat} (h : IsKind C H a lo hi) (hp : Pot H p n) (k : Kp p H H') : IsKind C H' a lo hi := by
  obtain ⟨dx, e⟩ := h
  exact ⟨dx, obj_kp e hp k fun _ _ _ z => nomatch z⟩
/-! ### k03: values of any kind -/
abbrev s__law_value : Stmt := (top 23)
abbrev N__law_value : List Str := ["_law_pot", "_law_most", "_law_way"]
abbrev P__law_value : List Str := ["_law_pot", "_law_most"]
theorem sc__law_value : FnScope N__law_value P__law_value (defScope s__law_value) := ⟨rfl, rfl, rfl, by decide +kernel, rfl, by decide +kernel, by decide +kernel⟩

/-- what _law_value gives -/
inductive AnyV (H : Hp) : V → Prop
  | non : AnyV H .non
  | bl (b : Bool) : AnyV H (.bl b)
  | int {i : Int} (a : -(2 ^ 200) < i) (b : i < 2 ^ 200) : AnyV H (.int i)
  | str {x : Str} (s : Sm 0 300 (.str x)) : AnyV H (.str x)
  | tup0 {a : Addr} (e : H a = some (.tup [])) : AnyV H (.ref a)
  | tup1 {a : Addr} (e : H a = some (.tup [.int 8])) : AnyV H (.ref a)
  | lst0 {a : Addr} (n : a ≠ sysModules) (e : H a = some (.lst [])) : AnyV H (.ref a)
  | d0 {a : Addr} (e : H a = some (.dK [])) : AnyV H (.ref a)
theorem AnyV.kp {H H' : Hp} {p : Addr} {n : Nat} {v : V} (h : AnyV H v) (hp : Pot H p n) (k : Kp p H H') : AnyV H' v := by
  cases h with
  | non => exact .non
  | bl b => exact .bl b
  | int a b => exact .int a b
  | str s => exact .str s
  | tup0 e => exact .tup0 (obj_kp e hp k (fun _ _ _ z => nomatch z))
  | tup1 e => exact .tup1 (obj_kp e hp k (fun _ _ _ z => nomatch z))
  | lst0 n e => exact .lst0 n (obj_kp e hp k (fun _ _ _ z => nomatch z))
  | d0 e => exact .d0 (obj_kp e hp k (fun _ _ _ z => nomatch z))
theorem AnyV.ext {H H' : Hp} {v : V} (h : AnyV H v) (s : LamX.ExtN H H') : AnyV H' v := by
  cases h with
  | non => exact .non
  | bl b => exact .bl b
  | int a b => exact .int a b
  | str q => exact .str q
  | tup0 e => exact .tup0 (s _ _ e (fun _ z => nomatch z))
  | tup1 e => exact .tup1 (s _ _ e (fun _ z => nomatch z))
  | lst0 n e => exact .lst0 n (s _ _ e (fun _ z => nomatch z))
  | d0 e => exact .d0 (s _ _ e (fun _ z => nomatch z))
theorem AnyV.same {H H' : Hp} {v : V} (h : AnyV H v) (s : Same H H') : AnyV H' v := h.ext fun b o e _ => s b o e
theorem AnyV.plain {H : Hp} {v : V} (h : AnyV H v) : Plain H v := by
  cases h with
  | non => exact .non
  | bl b => exact .bl b
  | int a b => exact .int _
  | str q => exact .str _
  | tup0 e => exact .tup e
  | tup1 e => exact .tup e
  | lst0 n e => exact .lst e
  | d0 e => exact .dK e
theorem AnyV.data {H : Hp} {v : V} (h : AnyV H v) : ∃ d, Dz H v d ∧ Sz 1 300 d := by
  cases h with
  | non => exact ⟨_, .non, (sm_none (k := 0)).z.up (by decide) (by decide)⟩
  | bl b => exact ⟨_, .bl b, (sm_bool (k := 0) b).z.up (by decide) (by decide)⟩
  | int a b => exact ⟨_, .int _, (sm_int (k := 0) a b).z.up (by decide) (by decide)⟩
  | str q => exact ⟨_, .str _, q.z.up (by decide) (by decide)⟩
  | tup0 e => exact ⟨_, .tup e .nil, (sz_tup (k := 0) sz_nil).up (by decide) (by decide)⟩
  | tup1 e => exact ⟨_, .tup e (.cons (.int _) .nil), (sz_tup (k := 0) (sz_cons (sm_int (by decide) (by decide)).z sz_nil)).up (by decide) (by decide)⟩
  | lst0 n e => exact ⟨_, .lst n e .nil, (sz_list (k := 0) sz_nil).up (by decide) (by decide)⟩
  | d0 e => exact ⟨_, .d0 e, (sz_d0 (k := 0)).up (by decide) (by decide)⟩
theorem sm_str {k : Nat} {x : Str} (h : PyData.showable (.str x) = true) (c : PyData.canLay0 (.str x) = true) (l : PyData.leavesShort 250 (.str x) = true) (w : PyData.weight (.str x) ≤ 300) : Sm k 300 (.str x) := ⟨h, by simp [PyData.hasDict], c, l, w, by simp [PyData.depth]⟩
theorem Pot.ne' {H : Hp} {p q : Addr} {n : Nat} (h : Pot H p n) (hq : H q = none) : q ≠ p := (h.ne hq).symm
def spVal : Sp := fun vs H Q _ => ∃ (p : Addr) (n : Nat) (m : Int), vs = [.ref p, .int m] ∧ 0 < m ∧ m < 100 ∧ Pot H p (n + 2) ∧ ∀ (v : V) (H' : Hp), AnyV H' v → Kp p H H' → Pot H' p n → Q v H'
theorem ok_value {f : Addr} {fd : FuncData} (F : Fun K "_law_value" "_law_value" s__law_value f fd) (T : Txt mg) (c_take : Cal P w K mg base 1 "_law_take" P__law_take spTake) (c_of : Cal P w K mg base 2 "_law_of" P__law_of spOf) :
    FnOk P w K mg base CX0 3 f fd P__law_value spVal := by
  obtain ⟨f_take, fd_take, G__law_take, b__law_take, g__law_take, k__law_take⟩ := c_take
  obtain ⟨f_of, fd_of, G__law_of, b__law_of, g__law_of, k__law_of⟩ := c_of
  refine F.ok sc__law_value (fun vs H Q E h => ?_) (fun cdv A outer s H vs Q E hr h => ?_)
  · obtain ⟨p, n, m, rfl, _⟩ := h
    rfl
  · obtain ⟨p, n, m, rfl, m0, m1, hp, k⟩ := h
    refine ⟨_, (pss_cons (ps_set (i := 2) sc__law_value.nd rfl (Or.inl rfl) (pe_call G__law_take (hr.mono (by decide)) rfl g__law_take k__law_take b__law_take .nil pass0 (pa_cons (pv 0) (pa_cons pe_int pa_nil))))
      (pss_cons (ps_if (pt_cmpR op_eq (pv 2) pe_int (nomark _)) (pss_one (ps_ret (pe_call G__law_of (hr.mono (by decide)) rfl g__law_of k__law_of b__law_of .nil pass0 (pa_cons (pv 0) (pa_cons (pe_lst (pa_cons pe_non (pa_cons pe_bl (pa_cons pe_bl (pa_cons pe_str (pa_cons pe_str (pa_cons (pe_tup pa_nil) (pa_cons (pe_tup (pa_cons pe_int pa_nil)) (pa_cons (pe_lstN pa_nil) (pa_cons pe_dnewK (pa_cons (pe_op op_pow pe_int pe_int) (pa_cons (pe_un un_neg (pe_op op_pow pe_int pe_int)) pa_nil)))))))))))) pa_nil))))) pss_nil)
      (pss_cons (ps_if (pt_cmpR op_eq (pv 2) pe_int (nomark _)) (pss_one (ps_ret (pe_call G__law_of (hr.mono (by decide)) rfl g__law_of k__law_of b__law_of .nil pass0 (pa_cons (pv 0) (pa_cons (pe_lst (pa_cons (pe_un un_neg pe_int) (pa_cons pe_int (pa_cons pe_int (pa_cons pe_int (pa_cons (pe_op op_sub (pv 1) pe_int) (pa_cons (pv 1) (pa_cons (pe_op op_add (pv 1) pe_int) pa_nil)))))))) pa_nil))))) pss_nil)
      (pss_one (ps_ret (pe_op op_add pe_int (pe_call G__law_take (hr.mono (by decide)) rfl g__law_take k__law_take b__law_take .nil pass0 (pa_cons (pv 0) (pa_cons (pv 1) pa_nil))))))))), ?_⟩
    unfold tLstN
    fail "z run"
    refine ⟨p, n + 1, 4, rfl, hp, by decide, by decide, fun r1 H1 r10 r11 K1 P1 => ?_⟩
    fail "z run"
    refine rd_ite (fun c => ?_) (fun c => ?_)
    · fail "z run"
      intro w1 hw1
      fail "z run"
      intro w2 hw2
      fail "z run"
      refine ⟨Nat.zero_le _, fun w3 nw3 hw3 => ?_⟩
      fail "z run"
      intro w4 hw4
      fail "z run"
      intro w6 hw6
      have r6 := same_new (o := .lst [.non, .bl true, .bl false, .str "8", .str "", .ref w1, .ref w2, .ref w3, .ref w4, .int (10 ^ Int.toNat 17), .int (-10 ^ Int.toNat 17)]) hw6
      have r4 := (same_new (o := .dK []) hw4).trans r6
      have r3 := (same_new (o := .lst []) hw3).trans r4
      have r2 := (same_new (o := .tup [.int 8]) hw2).trans r3
      have r1' := (same_new (o := .tup []) hw1).trans r2
      have b1 := r2 _ _ (upd_same (H := H1) (a := w1) (o := .tup []))
      have b2 := r3 _ _ (upd_same (H := upd H1 w1 (.tup [])) (a := w2) (o := .tup [.int 8]))
      have b3 := r4 _ _ (upd_same (H := upd (upd H1 w1 (.tup [])) w2 (.tup [.int 8])) (a := w3) (o := .lst []))
      have b4 := r6 _ _ (upd_same (H := upd (upd (upd H1 w1 (.tup [])) w2 (.tup [.int 8])) w3 (.lst [])) (a := w4) (o := .dK []))
      have P6 := P1.same r1'
      have nw : w6 ≠ p := (P1.same ((same_new (o := .tup []) hw1).trans ((same_new (o := .tup [.int 8]) hw2).trans ((same_new (o := .lst []) hw3).trans (same_new (o := .dK []) hw4))))).ne' hw6
      fail "z run"
      refine ⟨p, w6, n, _, rfl, P6, nw, upd_same, by simp, by simp, fun v H8 hv K8 P8 => ?_⟩
      have s1 := obj_kp b1 P6 K8 (fun _ _ _ z => nomatch z)
      have s2 := obj_kp b2 P6 K8 (fun _ _ _ z => nomatch z)
      have s3 := obj_kp b3 P6 K8 (fun _ _ _ z => nomatch z)
      have s4 := obj_kp b4 P6 K8 (fun _ _ _ z => nomatch z)
      refine k v H8 ?_ (K1.trans fun b o nb e => K8 _ _ nb (r1' _ _ e)) P8
      simp only [List.mem_cons, List.not_mem_nil, or_false] at hv
      rcases hv with rfl | rfl | rfl | rfl | rfl | rfl | rfl | rfl | rfl | rfl | rfl
      · exact .non
      · exact .bl _
      · exact .bl _
      · exact .str (sm_str (k := 0) (by decide +kernel) (by decide +kernel) (by decide +kernel) (by decide +kernel))
      · exact .str (sm_str (k := 0) (by decide +kernel) (by decide +kernel) (by decide +kernel) (by decide +kernel))
      · exact .tup0 s1
      · exact .tup1 s2
      · exact .lst0 nw3 s3
      · exact .d0 s4
      · exact .int (by decide) (by decide)
      · exact .int (by decide) (by decide)
    · fail "z run"
      refine rd_ite (fun c => ?_) (fun c => ?_)
      · fail "z run"
        intro w1 hw1
        have S := same_new (o := .lst [.int (-1), .int 0, .int 1, .int 2, .int (m - 1), .int m, .int (m + 1)]) hw1
        fail "z run"
        refine ⟨p, w1, n, _, rfl, P1.same S, P1.ne' hw1, upd_same, by simp, by simp, fun v H8 hv K8 P8 => ?_⟩
        refine k v H8 ?_ (K1.trans fun b o nb e => K8 _ _ nb (S _ _ e)) P8
        simp only [List.mem_cons, List.not_mem_nil, or_false] at hv
        rcases hv with rfl | rfl | rfl | rfl | rfl | rfl | rfl <;> exact .int (by omega) (by omega)
      · fail "z run"
        refine ⟨p, n, m, rfl, P1, m0, by omega, fun r2 H2 r20 r21 K2 P2 => ?_⟩
        fail "z run"
        exact k _ _ (.int (by omega) (by omega)) (K1.trans K2) P2
/-! ### k03: what is heard of a call, what is due -/
abbrev s__law_heard : Stmt := (top 24)
abbrev N__law_heard : List Str := ["_law_call", "_law_caught", "_law_kind", "error"]
abbrev P__law_heard : List Str := ["_law_call"]
theorem sc__law_heard : FnScope N__law_heard P__law_heard (defScope s__law_heard) := ⟨rfl, rfl, rfl, by decide +kernel, rfl, by decide +kernel, by decide +kernel⟩
abbrev s__law_due : Stmt := (top 25)
abbrev N__law_due : List Str := ["_law_value_here", "_law_most", "_law_ends", "_law_is_number"]
abbrev P__law_due : List Str := ["_law_value_here", "_law_most", "_law_ends"]
theorem sc__law_due : FnScope N__law_due P__law_due (defScope s__law_due) := ⟨rfl, rfl, rfl, by decide +kernel, rfl, by decide +kernel, by decide +kernel⟩
abbrev s__law_right : Stmt := (top 26)
abbrev N__law_right : List Str := ["_law_pot", "_law_told", "_law_due_here", "_law_one", "_law_other", "_law_some", "_law_many", "_law_value_here", "_law_bits", "_law_figures"]
abbrev P__law_right : List Str := ["_law_pot"]
theorem sc__law_right : FnScope N__law_right P__law_right (defScope s__law_right) := ⟨rfl, rfl, rfl, by decide +kernel, rfl, by decide +kernel, by decide +kernel⟩

abbrev qLam : Str := "_law_right.<locals>.<lambda>"
/-- what hears a call makes of it -/
def THeard (C CB : Addr) : (XK → Hp → VK → Prop) → Hp → VK → Prop := fun tl H Q => ∀ Q' : VK,
  (∀ k H' lo hi, IsKind C H' k lo hi → (∀ t1 t2 H'', Same H' H'' → H'' t1 = some (.tup [.int lo, .int hi]) → H'' t2 = some (.tup [.str "kind", .ref t1]) → Q (.ref t2) H'') → Q' (.ref k) H') →
  tl (fun cls d H' => cls = .ref CB ∧ ∃ (dd : Addr) (v : V), d = some dd ∧ H' dd = some (.xd [("value", v)]) ∧ ∀ t, H' t = none → Q (.ref t) (upd H' t (.tup [.str "bad", v]))) H Q'
theorem heard_gives {X : Cx} {g C CW C_BadBits : Addr} {cdg : Value} {q : Str} (KT : KindT X.K C) (g_WidthError : X.mg "WidthError" = some (.ref CW)) (T : Txt X.mg) (n_ve : X.mg "ValueError" = none) (ET_BadBits : ErrT X.K X.mg CW C_BadBits "BadBits") :
    LamX.GivesTo X N__law_heard "_law_heard" (defScope s__law_heard) g cdg (defBody s__law_heard) "_law_call" q (THeard C C_BadBits) := by
  have g_BadBits := ET_BadBits.g
  intro f c' s H Q tl act hc h
  refine ⟨_, pss_cons (ps_set (i := 1) sc__law_heard.nd rfl (Or.inl rfl) pe_non) (pss_keepL (i := 3) (c := .ref CW)
    (tb := fun W D σ H => ∃ Ech : XK, (∀ cls d σ' H', Ech cls d H' → W cls d σ' H') ∧ σ[0]? = some (some (.ref f)) ∧ H c' = some (LamX.CodeO c' q) ∧ ∀ Q' : VK, (∀ k H' lo hi, IsKind C H' k lo hi → (∀ t1 t2 H'', Same H' H'' → H'' t1 = some (.tup [.int lo, .int hi]) → H'' t2 = some (.tup [.str "kind", .ref t1]) → D.rt (.ref t2) H'') → Q' (.ref k) H') → tl Ech H Q')
    rfl rfl sc__law_heard.nd rfl rfl ⟨rfl, by decide, .inl g_WidthError⟩ (fun W pn xe tk => ?hb) (fun a oe cls d pn hz hf => (pss_one (ps_set (i := 1) sc__law_heard.nd rfl (Or.inl rfl) (pv 3)))) pss_none (fun a oe cls d pn hz hf => (pss_cons (ps_if (PW.pt (pw_or (pt_not (pt_val (pe_callB (call_isK hz hf) (by rfl) T.n_isinstance (by decide +kernel) (pa_cons (pv 1) (pa_cons (pe_glob (v := .ref C_BadBits) rfl g_BadBits rfl) pa_nil))))) (pw_or1 (pt_not (pt_val (pe_callB (call_isK hz hf) (by rfl) T.n_isinstance (by decide +kernel) (pa_cons (pv 1) (pa_cons (pe_bltn (v := .ty "ValueError") (by rfl) n_ve (by decide +kernel) rfl) pa_nil)))))))) (pss_one (ps_ret (pe_tup (pa_cons pe_str (pa_cons pe_non pa_nil))))) pss_nil)
      (pss_one (ps_ret (pe_tup (pa_cons pe_str (pa_cons (pe_xfK hz hf (pv 1)) pa_nil)))))))), ?_⟩
  case hb =>
    refine ⟨fun pins s' σ H' D I h' => ?_⟩
    obtain ⟨Ech, hW, h1, h2, h3⟩ := h'
    have len := I.len
    refine (show PSs _ _ _ from (pss_cons (ps_set (i := 2) sc__law_heard.nd rfl (Or.inl rfl) (act W pn xe Ech _ _ tk hW))
      (pss_one (ps_ret (pe_tup (pa_cons pe_str (pa_cons (pe_tup (pa_cons (pe_fld (pv 2) rfl) (pa_cons (pe_fld (pv 2) rfl) pa_nil))) pa_nil))))))).run pins s' σ H' D I ?_
    have len : σ.length = 4 := len
    match σ, len with
    | [x0, x1, x2, x3], _ =>
    fail "z run"
    refine ⟨h1, h2, h3 _ fun k H1 lo hi ik hk => ?_⟩
    obtain ⟨dx, ek⟩ := id ik
    fail "z run"
    refine ⟨_, _, _, _, _, rfl, ek, KT.cl, KT.n_low, kf_low _ _, ?_⟩
    fail "z run"
    refine ⟨_, _, _, _, _, rfl, ek, KT.cl, KT.n_high, kf_high _ _, ?_⟩
    fail "z run"
    intro t1 ht1
    fail "z run"
    intro t2 ht2
    have S := same_new (o := .tup [.str "kind", .ref t1]) ht2
    exact hk t1 t2 _ ((same_new ht1).trans S) (S _ _ upd_same) upd_same
  · fail "z run"
    refine ⟨_, ?_, rfl, hc, fun Q' k => h Q' k⟩
    rintro cls d σ' H' ⟨rfl, dd, v, rfl, ed, k⟩
    refine ⟨ET_BadBits.me, fun a na len => ?_⟩
    have len' : σ'.length = 4 := len
    match σ', len' with
    | [x0, x1, x2, x3], _ =>
    fail "z run"
    refine ⟨C_BadBits, dd, _, _, _, true, rfl, rfl, ET_BadBits.ek, rfl, ed, fun _ h => h, ET_BadBits.kc, ?_⟩
    fail "z run"
    refine iteF ?_
    fail "z run"
    refine ⟨C_BadBits, dd, _, _, _, true, rfl, rfl, ET_BadBits.ek, rfl, ed, fun _ h => h, ET_BadBits.kv, ?_⟩
    fail "z run"
    refine iteF ?_
    fail "z run"
    unfold tXfP
    fail "z run"
    refine ⟨rfl, C_BadBits, dd, _, v, rfl, ET_BadBits.ek, ET_BadBits.nv, rfl, ed, by simp [List.lookup], ?_⟩
    fail "z run"
    exact k
def TDue : V → V → (V → Hp → VK → Prop) → Hp → VK → Prop := fun v w tl H Q => ∃ m : Int, w = .int m ∧ Plain H v ∧ (btw v 1 m = true → ∀ Q' : VK, (∀ r H', (∀ t, H' t = none → Q (.ref t) (upd H' t (.tup [.str "kind", r]))) → Q' r H') → tl v H Q') ∧
  (btw v 1 m = false → ∀ t, H t = none → Q (.ref t) (upd H t (.tup [.str "bad", v])))
theorem due_gives {X : Cx} {g : Addr} {cdg : Value} {q : Str} (T : Txt X.mg) : Gives3 X N__law_due "_law_due" (defScope s__law_due) g cdg (defBody s__law_due) "_law_ends" q TDue := by
  intro f c' s H Q v1 v2 tl act hc h
  obtain ⟨m, rfl, p, k1, k2⟩ := h
  refine ⟨_, (pss_cons (ps_set (i := 3) sc__law_due.nd rfl (Or.inl rfl) (pe_and (pe_callB call_isi (by rfl) T.n_isinstance (by decide +kernel) (pa_cons (pv 0) (pa_cons (pe_bltn (v := .ty "int") (by rfl) T.n_int (by decide +kernel) rfl) pa_nil))) (pe_one (pe_not (pe_callB call_isi (by rfl) T.n_isinstance (by decide +kernel) (pa_cons (pv 0) (pa_cons (pe_bltn (v := .ty "bool") (by rfl) T.n_bool (by decide +kernel) rfl) pa_nil)))))))
      (pss_cons (ps_if (PW.pt (pw_or (pt_not (pt_val (pv 3))) (pw_or1 (pt_not (pt_chain op_le op_le pe_int (pv 0) (pv 1)))))) (pss_one (ps_ret (pe_tup (pa_cons pe_str (pa_cons (pv 0) pa_nil))))) pss_nil)
      (pss_one (ps_ret (pe_tup (pa_cons pe_str (pa_cons (act _ _ _ _ (pa_cons (pv 0) pa_nil) (by rfl)) pa_nil))))))), ?_⟩
  fail "z run"
  refine rd_isiP p fun b h1 h2 h3 => ?_
  fail "z run"
  refine rd_iteB (fun hb => ?_) (fun hb => ?_)
  · fail "z run"
    refine rd_isiB p fun cb hc' => ?_
    fail "z run"
    cases cb with
    | true =>
      obtain ⟨d, rfl⟩ := hc'.mp rfl
      refine iteT (iteT ?_)
      fail "z run"
      exact fun t ht => k2 rfl t ht
    | false =>
      obtain ⟨n, rfl⟩ : ∃ n, v1 = .int n := by
        rcases h1 hb with z | ⟨d, rfl⟩
        · exact isI_int z
        · exact absurd (hc'.mpr ⟨d, rfl⟩) (by decide)
      refine iteF ?_
      fail "z run"
      have e : btw (.int n) 1 m = (decide (1 ≤ n) && decide (n ≤ m)) := rfl
      refine rd_iteB (fun a1 => ?_) (fun a1 => ?_)
      · fail "z run"
        rw [a1, Bool.true_and] at e
        refine rd_iteB (fun a2 => ?_) (fun a2 => ?_)
        · fail "z run"
          rw [show decide (n ≤ m) = false by cases q : decide (n ≤ m) with | true => rw [q] at a2; cases a2 | false => rfl] at e
          exact fun t ht => k2 e t ht
        · fail "z run"
          refine ⟨rfl, ?_⟩
          fail "z run"
          refine ⟨_, rfl, hc, ?_⟩
          rw [show decide (n ≤ m) = true by cases q : decide (n ≤ m) with | false => rw [q] at a2; cases a2 | true => rfl] at e
          refine k1 e _ fun r H' hk => ?_
          fail "z run"
          exact fun t ht => hk t ht
      · fail "z run"
        rw [a1, Bool.false_and] at e
        refine iteT ?_
        fail "z run"
        exact fun t ht => k2 e t ht
  · fail "z run"
    refine iteT (iteT ?_)
    fail "z run"
    have e : btw v1 1 m = false := btw_no (by
      cases q : isI v1 with
      | false => rfl
      | true =>
        rw [h2 q] at hb
        cases hb)
    exact fun t ht => k2 e t ht
/-! ### k03: the law's turn -/
/-- what is told of C.m(v), and what is due -/
def Told (v : V) (most : Int) (lo hi : Int → Int) (H : Hp) (t : Addr) : Prop :=
  (∃ (n : Int) (t1 : Addr), v = .int n ∧ 1 ≤ n ∧ n ≤ most ∧ H t1 = some (.tup [.int (lo n), .int (hi n)]) ∧ H t = some (.tup [.str "kind", .ref t1])) ∨ (btw v 1 most = false ∧ H t = some (.tup [.str "bad", v]))
theorem Told.ext {v : V} {most : Int} {lo hi : Int → Int} {H H' : Hp} {t : Addr} (h : Told v most lo hi H t) (s : LamX.ExtN H H') : Told v most lo hi H' t := by
  rcases h with ⟨n, t1, a, b, c, d, e⟩ | ⟨a, e⟩
  · exact .inl ⟨n, t1, a, b, c, s _ _ d (fun _ z => nomatch z), s _ _ e (fun _ z => nomatch z)⟩
  · exact .inr ⟨a, s _ _ e (fun _ z => nomatch z)⟩
theorem Told.same {v : V} {most : Int} {lo hi : Int → Int} {H H' : Hp} {t : Addr} (h : Told v most lo hi H t) (s : Same H H') : Told v most lo hi H' t := h.ext (.of s)
theorem Told.put {v : V} {most : Int} {lo hi : Int → Int} {H : Hp} {t l : Addr} {xs : List V} {o : HO} (h : Told v most lo hi H t) (hl : H l = some (.lst xs)) : Told v most lo hi (upd H l o) t := by
  have n : ∀ {b : Addr} {ys : List V}, H b = some (.tup ys) → b ≠ l := fun {b ys} e z => by
    rw [z, hl] at e
    cases e
  rcases h with ⟨m, t1, a, b, c, d, e⟩ | ⟨a, e⟩
  · exact .inl ⟨m, t1, a, b, c, (upd_ne (n d)).trans d, (upd_ne (n e)).trans e⟩
  · exact .inr ⟨a, (upd_ne (n e)).trans e⟩
theorem Told.tup {v : V} {most : Int} {lo hi : Int → Int} {H : Hp} {t : Addr} (h : Told v most lo hi H t) : ∃ ys, H t = some (.tup ys) := by
  rcases h with ⟨n, t1, a, b, c, d, e⟩ | ⟨a, e⟩
  · exact ⟨_, e⟩
  · exact ⟨_, e⟩
theorem AnyV.put {H : Hp} {v : V} {l : Addr} {x : V} {xs : List V} {o : HO} (h : AnyV H v) (hl : H l = some (.lst (x :: xs))) : AnyV (upd H l o) v := by
  have n : ∀ {b : Addr} {u : HO}, H b = some u → u ≠ .lst (x :: xs) → b ≠ l := fun {b u} e q z => by
    rw [z, hl] at e
    exact q (Option.some.inj e).symm
  cases h with
  | non => exact .non
  | bl b => exact .bl b
  | int a b => exact .int a b
  | str s => exact .str s
  | tup0 e => exact .tup0 ((upd_ne (n e (fun z => nomatch z))).trans e)
  | tup1 e => exact .tup1 ((upd_ne (n e (fun z => nomatch z))).trans e)
  | lst0 m e => exact .lst0 m ((upd_ne (n e (fun z => by cases z))).trans e)
  | d0 e => exact .d0 ((upd_ne (n e (fun z => nomatch z))).trans e)
def toldD (v : V) (most : Int) (lo hi : Int → Int) (d : PyData) : PyData := match v with
  | .int n => if btw v 1 most = true then .tuple [.str "kind", .tuple [.int (lo n), .int (hi n)]] else .tuple [.str "bad", d]
  | _ => .tuple [.str "bad", d]
theorem Told.dz {v : V} {most : Int} {lo hi : Int → Int} {H : Hp} {t : Addr} {d : PyData} (h : Told v most lo hi H t) (hd : Dz H v d) : Dz H (.ref t) (toldD v most lo hi d) := by
  rcases h with ⟨n, t1, rfl, b, c, e1, e⟩ | ⟨a, e⟩
  · have q : btw (.int n) 1 most = true := by
      show (decide (1 ≤ n) && decide (n ≤ most)) = true
      rw [decide_eq_true b, decide_eq_true c]
      rfl
    rw [show toldD (.int n) most lo hi d = .tuple [.str "kind", .tuple [.int (lo n), .int (hi n)]] from if_pos q]
    exact .tup e (.cons (.str _) (.cons (.tup e1 (.cons (.int _) (.cons (.int _) .nil))) .nil))
  · have z : toldD v most lo hi d = .tuple [.str "bad", d] := by
      cases v with
      | int n => exact if_neg (by rw [a]; exact Bool.false_ne_true)
      | _ => rfl
    rw [z]
    exact .tup e (.cons (.str _) (.cons hd .nil))
theorem sz_told {v : V} {most : Int} {lo hi : Int → Int} {d : PyData} (h : Sz 1 300 d) (b : ∀ n, 1 ≤ n → n ≤ most → -(2 ^ 200) < lo n ∧ lo n < 2 ^ 200 ∧ -(2 ^ 200) < hi n ∧ hi n < 2 ^ 200) : Sz 3 3000 (toldD v most lo hi d) := by
  have tb : Sz 2 300 (.str "bad") := (sm_str (k := 0) (by decide +kernel) (by decide +kernel) (by decide +kernel) (by decide +kernel)).z.up (by decide) (by decide)
  have tk : Sz 2 300 (.str "kind") := (sm_str (k := 0) (by decide +kernel) (by decide +kernel) (by decide +kernel) (by decide +kernel)).z.up (by decide) (by decide)
  have bad : Sz 3 3000 (.tuple [.str "bad", d]) := (sz_tup (sz_cons tb (sz_cons (h.up (by decide) (Nat.le_refl _)) sz_nil))).up (by decide) (by decide)
  cases v with
  | int n =>
    show Sz 3 3000 (if btw (.int n) 1 most = true then _ else _)
    by_cases q : btw (.int n) 1 most = true
    · rw [if_pos q]
      obtain ⟨m, em, h1, h2⟩ := btw_yes q
      cases em
      obtain ⟨b1, b2, b3, b4⟩ := b n h1 h2
      exact (sz_tup (sz_cons tk (sz_cons (sz_tup (sz_cons ((sm_int (k := 0) b1 b2).z.up (Nat.zero_le 1) (Nat.le_refl _)) (sz_cons ((sm_int (k := 0) b3 b4).z.up (Nat.zero_le 1) (Nat.le_refl _)) sz_nil))) sz_nil))).up (by decide) (by decide)
    · rw [if_neg q]
      exact bad
  | _ => exact bad
theorem heard_cls {C CB : Addr} {σ : L2.St} {H1 : Hp} {Q : VK} {v : V} {i : Nat} {most : Int} {lo hi : Int → Int} (s : σ[i]? = some (some v)) (p : Plain H1 v) (k : ∀ t H', Same H1 H' → Told v most lo hi H' t → Q (.ref t) H') :
    THeard C CB (fun E H' Q' => ClX.tCMeth C (fun vs H Q E => spClsN C CB most lo hi (vs ++ []) H Q E) E (tC (.ref C)) (tCons (tVar i) tNil) σ H' Q') H1 Q := by
  intro Q' hQ
  show (V.ref C = V.ref C) ∧ _
  refine ⟨rfl, Zg.rd_cons (Zg.rd_var s (Zg.rd_nil ?_))⟩
  exact ⟨v, rfl, p, fun n e a b x H' nx S ik => hQ x H' _ _ ik fun t1 t2 H'' S' e1 e2 => k t2 H'' (S.trans S') (.inl ⟨n, t1, e, a, b, e1, e2⟩),
    fun hb d H' nd S ed => ⟨rfl, d, v, rfl, ed, fun t nt => k t _ (S.trans (same_new nt)) (.inr ⟨hb, upd_same⟩)⟩⟩
theorem due_of {H : Hp} {Q : VK} {v : V} {most : Int} {lo hi : Int → Int} {tl : V → Hp → VK → Prop} (p : Plain H v) (hb : ∀ n, v = .int n → 1 ≤ n → n ≤ most → ∀ Q' : VK, (∀ t H', Same H H' → H' t = some (.tup [.int (lo n), .int (hi n)]) → Q' (.ref t) H') → tl v H Q')
    (k : ∀ t H', Same H H' → Told v most lo hi H' t → Q (.ref t) H') : TDue v (.int most) tl H Q := by
  refine ⟨most, rfl, p, fun hv Q' hQ => ?_, fun hv t nt => k t _ (same_new nt) (.inr ⟨hv, upd_same⟩)⟩
  obtain ⟨n, rfl, h1, h2⟩ := btw_yes hv
  exact hb n rfl h1 h2 Q' fun t1 H' S e => hQ _ _ fun t nt => k t _ (S.trans (same_new nt)) (.inl ⟨n, t1, rfl, h1, h2, same_new nt _ _ e, upd_same⟩)
theorem idx_right {b : Str} {N : List Str} {j : Nat} (nd : N.Nodup) (hj : N[j]? = some b) : ∀ i, N[i]? = some b → i = j := fun i hi => by
  exact (List.getElem?_inj (List.getElem?_eq_some_iff.mp hi).1 nd).mp (hi.trans hj.symm)
theorem bnd60 {x : Int} (h : -(10 ^ 60) ≤ x) (h2 : x ≤ 10 ^ 60) : -(2 ^ 200) < x ∧ x < 2 ^ 200 := by omega
abbrev sLo (n : Int) : Int := -(2 ^ (n - 1).toNat)
abbrev sHi (n : Int) : Int := 2 ^ (n - 1).toNat - 1
abbrev uLo (_ : Int) : Int := 0
abbrev uHi (n : Int) : Int := 2 ^ n.toNat - 1
abbrev dHi (n : Int) : Int := 10 ^ n.toNat - 1
theorem bnd_s (n : Int) (h1 : 1 ≤ n) (h2 : n ≤ 56) : -(2 ^ 200) < sLo n ∧ sLo n < 2 ^ 200 ∧ -(2 ^ 200) < sHi n ∧ sHi n < 2 ^ 200 := by
  have z := pow_le60 (b := 2) (by decide) (by decide) (i := (n - 1).toNat) (by omega)
  show -(2 ^ 200) < -(2 ^ (n - 1).toNat) ∧ -(2 ^ (n - 1).toNat) < (2 ^ 200 : Int) ∧ -(2 ^ 200) < ((2 : Int) ^ (n - 1).toNat - 1) ∧ ((2 : Int) ^ (n - 1).toNat - 1) < 2 ^ 200
  omega
theorem bnd_u (n : Int) (h1 : 1 ≤ n) (h2 : n ≤ 56) : -(2 ^ 200) < uLo n ∧ uLo n < 2 ^ 200 ∧ -(2 ^ 200) < uHi n ∧ uHi n < 2 ^ 200 := by
  have z := pow_le60 (b := 2) (by decide) (by decide) (i := n.toNat) (by omega)
  show -(2 ^ 200) < (0 : Int) ∧ (0 : Int) < (2 ^ 200 : Int) ∧ -(2 ^ 200) < ((2 : Int) ^ n.toNat - 1) ∧ ((2 : Int) ^ n.toNat - 1) < 2 ^ 200
  omega
theorem bnd_d (n : Int) (h1 : 1 ≤ n) (h2 : n ≤ 17) : -(2 ^ 200) < uLo n ∧ uLo n < 2 ^ 200 ∧ -(2 ^ 200) < dHi n ∧ dHi n < 2 ^ 200 := by
  have z := pow_le60 (b := 10) (by decide) (by decide) (i := n.toNat) (by omega)
  show -(2 ^ 200) < (0 : Int) ∧ (0 : Int) < (2 ^ 200 : Int) ∧ -(2 ^ 200) < ((10 : Int) ^ n.toNat - 1) ∧ ((10 : Int) ^ n.toNat - 1) < 2 ^ 200
  omega
theorem rd_cls {C CB : Addr} {σ : L2.St} {H : Hp} {E : XK} {Q : VK} {i : Nat} {n most : Int} {lo hi : Int → Int} (s : σ[i]? = some (some (.int n))) (h1 : 1 ≤ n) (h2 : n ≤ most) (k : ∀ x H', H x = none → Same H H' → IsKind C H' x (lo n) (hi n) → Q (.ref x) H') :
    ClX.tCMeth C (fun vs H Q E => spClsN C CB most lo hi (vs ++ []) H Q E) E (tC (.ref C)) (tCons (tVar i) tNil) σ H Q := by
  show (V.ref C = V.ref C) ∧ _
  refine ⟨rfl, Zg.rd_cons (Zg.rd_var s (Zg.rd_nil ?_))⟩
  refine ⟨_, rfl, .int _, fun m e a b x H' nx S ik => ?_, fun hb => ?_⟩
  · cases e
    exact k x H' nx S ik
  · have q : btw (.int n) 1 most = true := by
      show (decide (1 ≤ n) && decide (n ≤ most)) = true
      rw [decide_eq_true h1, decide_eq_true h2]
      rfl
    rw [q] at hb
    cases hb
theorem eqv3 : ∀ a b : Bool, PyData.eqv (.list [.bool a, .bool a, .bool b]) (.list [.bool a, .bool a, .bool b]) = true := by decide +kernel
theorem pow_le2 {i j : Nat} : (2 : Int) ^ i ≤ 2 ^ j ↔ i ≤ j := by
  have e : ∀ k : Nat, (2 : Int) ^ k = ((2 ^ k : Nat) : Int) := fun k => by norm_cast
  rw [e, e, Int.ofNat_le]
  exact Nat.pow_le_pow_iff_right (by decide)
theorem le_uu {x y : Int} (hx : 1 ≤ x) (hy : 1 ≤ y) : leB (uLo x) (uHi x) (uLo y) (uHi y) = decide (x ≤ y) := by
  have z := pow_le2 (i := x.toNat) (j := y.toNat)
  show (decide ((0 : Int) ≤ 0) && decide ((2 : Int) ^ x.toNat - 1 ≤ 2 ^ y.toNat - 1)) = _
  rw [decide_eq_true (Int.le_refl 0), Bool.true_and]
  by_cases h : x ≤ y
  · rw [decide_eq_true h, decide_eq_true (by have := z.mpr (by omega); omega)]
  · rw [decide_eq_false h, decide_eq_false (fun q => h (by have := z.mp (by omega); omega))]
theorem le_ss {x y : Int} (hx : 1 ≤ x) (hy : 1 ≤ y) : leB (sLo x) (sHi x) (sLo y) (sHi y) = decide (x ≤ y) := by
  have z := pow_le2 (i := (x - 1).toNat) (j := (y - 1).toNat)
  show (decide (-((2 : Int) ^ (y - 1).toNat) ≤ -(2 ^ (x - 1).toNat)) && decide ((2 : Int) ^ (x - 1).toNat - 1 ≤ 2 ^ (y - 1).toNat - 1)) = _
  by_cases h : x ≤ y
  · have q := z.mpr (by omega)
    rw [decide_eq_true h, decide_eq_true (show -((2 : Int) ^ (y - 1).toNat) ≤ -(2 ^ (x - 1).toNat) by omega), decide_eq_true (by omega)]
    rfl
  · rw [decide_eq_false h, decide_eq_false (p := (2 : Int) ^ (x - 1).toNat - 1 ≤ 2 ^ (y - 1).toNat - 1) (fun q => h (by have := z.mp (by omega); omega)), Bool.and_false]
theorem le_us {x y : Int} (hx : 1 ≤ x) (hy : 1 ≤ y) : leB (uLo x) (uHi x) (sLo y) (sHi y) = decide (x < y) := by
  have z := pow_le2 (i := x.toNat) (j := (y - 1).toNat)
  have p : (1 : Int) ≤ 2 ^ (y - 1).toNat := by
    have := pow_le2 (i := 0) (j := (y - 1).toNat)
    exact this.mpr (Nat.zero_le _)
  show (decide (-((2 : Int) ^ (y - 1).toNat) ≤ 0) && decide ((2 : Int) ^ x.toNat - 1 ≤ 2 ^ (y - 1).toNat - 1)) = _
  rw [decide_eq_true (show -((2 : Int) ^ (y - 1).toNat) ≤ 0 by omega), Bool.true_and]
  by_cases h : x < y
  · rw [decide_eq_true h, decide_eq_true (by have := z.mpr (by omega); omega)]
  · rw [decide_eq_false h, decide_eq_false (fun q => h (by have := z.mp (by omega); omega))]
def CalC (P : Program) (w : World) (K : PySem.W.Frag) (mg : Str → Option Value) (base : Heap) (C : Addr) (m : Str) (ps : List Str) (sp : Sp) : Prop :=
  ∃ (q f : Addr) (fd : FuncData), ClX.CMet K C (.type "type") m q f ∧ FnOk P w K mg base (L2.CX P w) 4 f fd ps sp ∧ Binds K fd ps []
def spRightT (PT : Addr) (n : Nat) : Sp := fun vs H Q _ => ∃ (p : Addr) (m : Nat), vs = [.ref p] ∧ Pot H p (m + n) ∧ LamX.Tabs [(PT, qLam)] H ∧ ∀ H', KpT p H H' → Pot H' p m → LamX.Tabs [(PT, qLam)] H' → Q (.bl true) H'
theorem ok_right {f C CW C_BadBits cR PT fh fu : Addr} {fd : FuncData} {oc kV doc pm cdv ct oc2 kV2 doc2 pm2 cdv2 ct2 : Value} {od an od2 an2 : Option Addr} {osl osl2 : Array (Option Value)} (F : FunC K "_law_right" "_law_right" s__law_right f fd (.ref cR)) (TB : LamX.TabB base mg cR PT) (T : Txt mg) (n_ve : mg "ValueError" = none)
    (KT : KindT K C) (KO : KindO K C) (g_Kind : mg "Kind" = some (.ref C)) (cr_Kind : ClX.CRead K C (.type "type"))
    (g_WidthError : mg "WidthError" = some (.ref CW)) (ET_BadBits : ErrT K mg CW C_BadBits "BadBits") (c_take : Cal P w K mg base 1 "_law_take" P__law_take spTake) (c_val : Cal P w K mg base 3 "_law_value" P__law_value spVal) (c_dbl : Cal P w K mg base 1 "_law_doubled" P__law_doubled (spPowN 2))
    (c_s : CalC P w K mg base C "signed" P_Kind_signed (spClsN C C_BadBits 56 sLo sHi)) (c_u : CalC P w K mg base C "unsigned" P_Kind_unsigned (spClsN C C_BadBits 56 uLo uHi)) (c_d : CalC P w K mg base C "digits" P_Kind_digits (spClsN C C_BadBits 17 uLo dHi))
    (c_le : CalN P w K mg base C 1 "__le__" P_Kind___le__ (spCmp C leB))
    (g__law_heard : mg "_law_heard" = some (.ref fh)) (k__law_heard : PySem.W.keepIn K (.ref fh) = true)
    (l__law_heard : K.lookup fh = some ⟨oc, od, .func (PySem.W.fnOf "_law_heard" "_law_heard" (defArgs s__law_heard) (defBody s__law_heard) (defScope s__law_heard) .none kV doc pm an cdv ct), osl⟩) (c__law_heard : PySem.W.codeIn K cdv "_law_heard" = true)
    (b__law_heard : L2.Binds K (PySem.W.fnOf "_law_heard" "_law_heard" (defArgs s__law_heard) (defBody s__law_heard) (defScope s__law_heard) .none kV doc pm an cdv ct) P__law_heard [])
    (g__law_due : mg "_law_due" = some (.ref fu)) (k__law_due : PySem.W.keepIn K (.ref fu) = true)
    (l__law_due : K.lookup fu = some ⟨oc2, od2, .func (PySem.W.fnOf "_law_due" "_law_due" (defArgs s__law_due) (defBody s__law_due) (defScope s__law_due) .none kV2 doc2 pm2 an2 cdv2 ct2), osl2⟩) (c__law_due : PySem.W.codeIn K cdv2 "_law_due" = true)
    (b__law_due : L2.Binds K (PySem.W.fnOf "_law_due" "_law_due" (defArgs s__law_due) (defBody s__law_due) (defScope s__law_due) .none kV2 doc2 pm2 an2 cdv2 ct2) P__law_due []) : FnG P w K mg base CX0 7 f fd P__law_right (spRightT PT 6) := by
  obtain ⟨f_take, fd_take, G__law_take, b__law_take, g__law_take, k__law_take⟩ := c_take
  obtain ⟨f_val, fd_val, G__law_value, b__law_value, g__law_value, k__law_value⟩ := c_val
  obtain ⟨f_dbl, fd_dbl, G__law_doubled, b__law_doubled, g__law_doubled, k__law_doubled⟩ := c_dbl
  obtain ⟨q_s, f_s, fd_s, cm_signed, G_Kind_signed, b_Kind_signed⟩ := c_s
  obtain ⟨q_u, f_u, fd_u, cm_unsigned, G_Kind_unsigned, b_Kind_unsigned⟩ := c_u
  obtain ⟨q_d, f_d, fd_d, cm_digits, G_Kind_digits, b_Kind_digits⟩ := c_d
  obtain ⟨f_le, fd_le, o___le__, G_Kind___le__, b_Kind___le__⟩ := c_le
  refine Fun_okGc F sc__law_right (fun vs H Q E h => ?_) (fun A outer s H vs Q E calm hr h => ?_)
  · obtain ⟨p, n, rfl, _⟩ := h
    rfl
  · obtain ⟨p, n, rfl, hp, tb, k⟩ := h
    refine ⟨_, (pss_cons (ps_asg (pe_tup (pa_cons (pe_call G__law_value (hr.mono (by decide)) rfl g__law_value k__law_value b__law_value .nil pass0 (pa_cons (pv 0) (pa_cons pe_int pa_nil))) (pa_cons (pe_call G__law_value (hr.mono (by decide)) rfl g__law_value k__law_value b__law_value .nil pass0 (pa_cons (pv 0) (pa_cons pe_int pa_nil))) pa_nil))) (pg_tup rfl (pgs_cons (pg_name (i := 7) sc__law_right.nd rfl (Or.inr rfl)) (pgs_cons (pg_name (i := 6) sc__law_right.nd rfl (Or.inr rfl)) pgs_nil))))
      (pss_cons (ps_set (i := 1) sc__law_right.nd rfl (Or.inl rfl) (pe_lstN (pa_cons (LamX.pe_lamcall (T := [(PT, qLam)]) (k := 4) rfl g__law_heard k__law_heard l__law_heard c__law_heard b__law_heard sc__law_heard rfl (Or.inl rfl) (heard_gives KT g_WidthError T n_ve ET_BadBits) TB rfl (List.mem_singleton.mpr rfl) (fun p hp _ => by rw [List.mem_singleton.mp hp]; rfl) (hr.mono (by decide)) (show LamX.LamS (defScope s__law_right) _ from LamX.lamS_by (by decide +kernel)) rfl (fun _ _ _ _ _ => rfl) (fun A outer s H E f c' hr => (pe_cmethF (pe_glob (v := .ref C) rfl g_Kind rfl) cr_Kind cm_signed G_Kind_signed (hr.mono (by decide)) b_Kind_signed (passes_call (takes_of rfl rfl rfl rfl) (fun _ _ _ _ h => h)) (pa_cons (pv 7) pa_nil)))) pa_nil)))
      (pss_cons (ps_expr (pe_bm PySem.F.plainAttrs_list PySem.F.slot_list_append PySem.F.type_list_append mt_append (pv 1) (pa_cons (LamX.pe_lamcall (T := [(PT, qLam)]) (k := 4) rfl g__law_heard k__law_heard l__law_heard c__law_heard b__law_heard sc__law_heard rfl (Or.inl rfl) (heard_gives KT g_WidthError T n_ve ET_BadBits) TB rfl (List.mem_singleton.mpr rfl) (fun p hp _ => by rw [List.mem_singleton.mp hp]; rfl) (hr.mono (by decide)) (show LamX.LamS (defScope s__law_right) _ from LamX.lamS_by (by decide +kernel)) rfl (fun _ _ _ _ _ => rfl) (fun A outer s H E f c' hr => (pe_cmethF (pe_glob (v := .ref C) rfl g_Kind rfl) cr_Kind cm_signed G_Kind_signed (hr.mono (by decide)) b_Kind_signed (passes_call (takes_of rfl rfl rfl rfl) (fun _ _ _ _ h => h)) (pa_cons (pv 7) pa_nil)))) pa_nil)))
      (pss_cons (ps_set (i := 2) sc__law_right.nd rfl (Or.inl rfl) (pe_lamcall3 (T := [(PT, qLam)]) (k := 4) rfl g__law_due k__law_due l__law_due c__law_due b__law_due sc__law_due rfl (Or.inl rfl) (pv 7) pe_int (due_gives T) TB rfl (List.mem_singleton.mpr rfl) (fun p hp _ => by rw [List.mem_singleton.mp hp]; rfl) (hr.mono (by decide)) (j := 8) (show LamS1 (defScope s__law_right) _ _ from lamS1_by (by decide +kernel)) (idx_right (N := N__law_right) (by decide +kernel) rfl) rfl rfl (fun _ _ _ _ _ _ => rfl) (fun A outer s H f c' hr => (pe_tup (pa_cons (pe_un un_neg (pe_call G__law_doubled (hr.mono (by decide)) rfl g__law_doubled k__law_doubled b__law_doubled .nil pass0 (pa_cons (pe_op op_sub (pv 8) pe_int) pa_nil))) (pa_cons (pe_op op_sub (pe_call G__law_doubled (hr.mono (by decide)) rfl g__law_doubled k__law_doubled b__law_doubled .nil pass0 (pa_cons (pe_op op_sub (pv 8) pe_int) pa_nil)) pe_int) pa_nil))))))
      (pss_cons (ps_if (pt_cmpR op_ne (pe_callB (call_reprZ calm (hu70 hr)) (by rfl) T.n_repr (by decide +kernel) (pa_cons (pv 1) pa_nil)) (pe_callB (call_reprZ calm (hu70 hr)) (by rfl) T.n_repr (by decide +kernel) (pa_cons (pe_lstN (pa_cons (pv 2) (pa_cons (pv 2) pa_nil))) pa_nil)) (nomark _)) (pss_one (ps_ret pe_bl)) pss_nil)
      (pss_cons (ps_set (i := 1) sc__law_right.nd rfl (Or.inl rfl) (pe_lstN (pa_cons (LamX.pe_lamcall (T := [(PT, qLam)]) (k := 4) rfl g__law_heard k__law_heard l__law_heard c__law_heard b__law_heard sc__law_heard rfl (Or.inl rfl) (heard_gives KT g_WidthError T n_ve ET_BadBits) TB rfl (List.mem_singleton.mpr rfl) (fun p hp _ => by rw [List.mem_singleton.mp hp]; rfl) (hr.mono (by decide)) (show LamX.LamS (defScope s__law_right) _ from LamX.lamS_by (by decide +kernel)) rfl (fun _ _ _ _ _ => rfl) (fun A outer s H E f c' hr => (pe_cmethF (pe_glob (v := .ref C) rfl g_Kind rfl) cr_Kind cm_unsigned G_Kind_unsigned (hr.mono (by decide)) b_Kind_unsigned (passes_call (takes_of rfl rfl rfl rfl) (fun _ _ _ _ h => h)) (pa_cons (pv 7) pa_nil)))) pa_nil)))
      (pss_cons (ps_expr (pe_bm PySem.F.plainAttrs_list PySem.F.slot_list_append PySem.F.type_list_append mt_append (pv 1) (pa_cons (LamX.pe_lamcall (T := [(PT, qLam)]) (k := 4) rfl g__law_heard k__law_heard l__law_heard c__law_heard b__law_heard sc__law_heard rfl (Or.inl rfl) (heard_gives KT g_WidthError T n_ve ET_BadBits) TB rfl (List.mem_singleton.mpr rfl) (fun p hp _ => by rw [List.mem_singleton.mp hp]; rfl) (hr.mono (by decide)) (show LamX.LamS (defScope s__law_right) _ from LamX.lamS_by (by decide +kernel)) rfl (fun _ _ _ _ _ => rfl) (fun A outer s H E f c' hr => (pe_cmethF (pe_glob (v := .ref C) rfl g_Kind rfl) cr_Kind cm_unsigned G_Kind_unsigned (hr.mono (by decide)) b_Kind_unsigned (passes_call (takes_of rfl rfl rfl rfl) (fun _ _ _ _ h => h)) (pa_cons (pv 7) pa_nil)))) pa_nil)))
      (pss_cons (ps_set (i := 2) sc__law_right.nd rfl (Or.inl rfl) (pe_lamcall3 (T := [(PT, qLam)]) (k := 4) rfl g__law_due k__law_due l__law_due c__law_due b__law_due sc__law_due rfl (Or.inl rfl) (pv 7) pe_int (due_gives T) TB rfl (List.mem_singleton.mpr rfl) (fun p hp _ => by rw [List.mem_singleton.mp hp]; rfl) (hr.mono (by decide)) (j := 8) (show LamS1 (defScope s__law_right) _ _ from lamS1_by (by decide +kernel)) (idx_right (N := N__law_right) (by decide +kernel) rfl) rfl rfl (fun _ _ _ _ _ _ => rfl) (fun A outer s H f c' hr => (pe_tup (pa_cons pe_int (pa_cons (pe_op op_sub (pe_call G__law_doubled (hr.mono (by decide)) rfl g__law_doubled k__law_doubled b__law_doubled .nil pass0 (pa_cons (pv 8) pa_nil)) pe_int) pa_nil))))))
      (pss_cons (ps_if (pt_cmpR op_ne (pe_callB (call_reprZ calm (hu70 hr)) (by rfl) T.n_repr (by decide +kernel) (pa_cons (pv 1) pa_nil)) (pe_callB (call_reprZ calm (hu70 hr)) (by rfl) T.n_repr (by decide +kernel) (pa_cons (pe_lstN (pa_cons (pv 2) (pa_cons (pv 2) pa_nil))) pa_nil)) (nomark _)) (pss_one (ps_ret pe_bl)) pss_nil)
      (pss_cons (ps_set (i := 1) sc__law_right.nd rfl (Or.inl rfl) (pe_lstN (pa_cons (LamX.pe_lamcall (T := [(PT, qLam)]) (k := 4) rfl g__law_heard k__law_heard l__law_heard c__law_heard b__law_heard sc__law_heard rfl (Or.inl rfl) (heard_gives KT g_WidthError T n_ve ET_BadBits) TB rfl (List.mem_singleton.mpr rfl) (fun p hp _ => by rw [List.mem_singleton.mp hp]; rfl) (hr.mono (by decide)) (show LamX.LamS (defScope s__law_right) _ from LamX.lamS_by (by decide +kernel)) rfl (fun _ _ _ _ _ => rfl) (fun A outer s H E f c' hr => (pe_cmethF (pe_glob (v := .ref C) rfl g_Kind rfl) cr_Kind cm_digits G_Kind_digits (hr.mono (by decide)) b_Kind_digits (passes_call (takes_of rfl rfl rfl rfl) (fun _ _ _ _ h => h)) (pa_cons (pv 6) pa_nil)))) pa_nil)))
      (pss_cons (ps_expr (pe_bm PySem.F.plainAttrs_list PySem.F.slot_list_append PySem.F.type_list_append mt_append (pv 1) (pa_cons (LamX.pe_lamcall (T := [(PT, qLam)]) (k := 4) rfl g__law_heard k__law_heard l__law_heard c__law_heard b__law_heard sc__law_heard rfl (Or.inl rfl) (heard_gives KT g_WidthError T n_ve ET_BadBits) TB rfl (List.mem_singleton.mpr rfl) (fun p hp _ => by rw [List.mem_singleton.mp hp]; rfl) (hr.mono (by decide)) (show LamX.LamS (defScope s__law_right) _ from LamX.lamS_by (by decide +kernel)) rfl (fun _ _ _ _ _ => rfl) (fun A outer s H E f c' hr => (pe_cmethF (pe_glob (v := .ref C) rfl g_Kind rfl) cr_Kind cm_digits G_Kind_digits (hr.mono (by decide)) b_Kind_digits (passes_call (takes_of rfl rfl rfl rfl) (fun _ _ _ _ h => h)) (pa_cons (pv 6) pa_nil)))) pa_nil)))
      (pss_cons (ps_set (i := 2) sc__law_right.nd rfl (Or.inl rfl) (pe_lamcall3 (T := [(PT, qLam)]) (k := 4) rfl g__law_due k__law_due l__law_due c__law_due b__law_due sc__law_due rfl (Or.inl rfl) (pv 6) pe_int (due_gives T) TB rfl (List.mem_singleton.mpr rfl) (fun p hp _ => by rw [List.mem_singleton.mp hp]; rfl) (hr.mono (by decide)) (j := 9) (show LamS1 (defScope s__law_right) _ _ from lamS1_by (by decide +kernel)) (idx_right (N := N__law_right) (by decide +kernel) rfl) rfl rfl (fun _ _ _ _ _ _ => rfl) (fun A outer s H f c' hr => (pe_tup (pa_cons pe_int (pa_cons (pe_callTy call_int_str (by rfl) T.n_int (by decide +kernel) (pa_cons (pe_op op_repS pe_str (pv 9)) pa_nil)) pa_nil))))))
      (pss_cons (ps_if (pt_cmpR op_ne (pe_callB (call_reprZ calm (hu70 hr)) (by rfl) T.n_repr (by decide +kernel) (pa_cons (pv 1) pa_nil)) (pe_callB (call_reprZ calm (hu70 hr)) (by rfl) T.n_repr (by decide +kernel) (pa_cons (pe_lstN (pa_cons (pv 2) (pa_cons (pv 2) pa_nil))) pa_nil)) (nomark _)) (pss_one (ps_ret pe_bl)) pss_nil)
      (pss_cons (ps_par (i := 3) (j := 4) rfl sc__law_right.nd rfl rfl (by decide) rfl rfl (pa_cons (pe_op op_add pe_int (pe_call G__law_take (hr.mono (by decide)) rfl g__law_take k__law_take b__law_take .nil pass0 (pa_cons (pv 0) (pa_cons pe_int pa_nil)))) (pa_cons (pe_op op_add pe_int (pe_call G__law_take (hr.mono (by decide)) rfl g__law_take k__law_take b__law_take .nil pass0 (pa_cons (pv 0) (pa_cons pe_int pa_nil)))) pa_nil)) (by rfl))
      (pss_cons (ps_set (i := 5) sc__law_right.nd rfl (Or.inl rfl) (pe_lst (pa_cons (pe_cmpR (op_cmpI (fun _ _ => rfl) o___le__.at_ o___le__.fn G_Kind___le__ (hr.mono (by decide)) b_Kind___le__ pass0) (pe_cmethF (pe_glob (v := .ref C) rfl g_Kind rfl) cr_Kind cm_unsigned G_Kind_unsigned (hr.mono (by decide)) b_Kind_unsigned passL (pa_cons (pv 3) pa_nil)) (pe_cmethF (pe_glob (v := .ref C) rfl g_Kind rfl) cr_Kind cm_unsigned G_Kind_unsigned (hr.mono (by decide)) b_Kind_unsigned passL (pa_cons (pv 4) pa_nil)) (nomark _)) (pa_cons (pe_cmpR (op_cmpI (fun _ _ => rfl) o___le__.at_ o___le__.fn G_Kind___le__ (hr.mono (by decide)) b_Kind___le__ pass0) (pe_cmethF (pe_glob (v := .ref C) rfl g_Kind rfl) cr_Kind cm_signed G_Kind_signed (hr.mono (by decide)) b_Kind_signed passL (pa_cons (pv 3) pa_nil)) (pe_cmethF (pe_glob (v := .ref C) rfl g_Kind rfl) cr_Kind cm_signed G_Kind_signed (hr.mono (by decide)) b_Kind_signed passL (pa_cons (pv 4) pa_nil)) (nomark _)) pa_nil))))
      (pss_cons (ps_expr (pe_bm PySem.F.plainAttrs_list PySem.F.slot_list_append PySem.F.type_list_append mt_append (pv 5) (pa_cons (pe_cmpR (op_cmpI (fun _ _ => rfl) o___le__.at_ o___le__.fn G_Kind___le__ (hr.mono (by decide)) b_Kind___le__ pass0) (pe_cmethF (pe_glob (v := .ref C) rfl g_Kind rfl) cr_Kind cm_unsigned G_Kind_unsigned (hr.mono (by decide)) b_Kind_unsigned passL (pa_cons (pv 3) pa_nil)) (pe_cmethF (pe_glob (v := .ref C) rfl g_Kind rfl) cr_Kind cm_signed G_Kind_signed (hr.mono (by decide)) b_Kind_signed passL (pa_cons (pv 4) pa_nil)) (nomark _)) pa_nil)))
      (pss_one (ps_ret (pe_cmpR (op_eqD hr.units) (pv 5) (pe_lst (pa_cons (pe_cmpR op_le (pv 3) (pv 4) (nomark _)) (pa_cons (pe_cmpR op_le (pv 3) (pv 4) (nomark _)) (pa_cons (pe_cmpR op_lt (pv 3) (pv 4) (nomark _)) pa_nil)))) (nomark _)))))))))))))))))))), ?_⟩
    rw [show L2.start N__law_right [V.ref p] = [some (.ref p), none, none, none, none, none, none, none, none, none] from rfl]
    unfold tLstN LamX.tLam tLam3
    fail "z run"
    refine ⟨p, n + 4, 56, rfl, by decide, by decide, hp, fun v1 H1 A1 K1 P1 => ?_⟩
    fail "z run"
    refine ⟨p, n + 2, 17, rfl, by decide, by decide, P1, fun v2 H2 A2 K2 P2 => ?_⟩
    have A1 := A1.kp P1 K2
    have T2 := tabs_kp (tabs_kp tb hp K1) P1 K2
    fail "z run"
    intro tt htt
    have S0 := same_new (o := .tup [v1, v2]) htt
    have htt' : upd H2 tt (.tup [v1, v2]) tt = some (.tup [v1, v2]) := upd_same
    have A1 := A1.same S0
    have A2 := A2.same S0
    have P0 := P2.same S0
    have T0 := T2.ext S0
    have K0 : KpT p H (upd H2 tt (.tup [v1, v2])) := ((KpT.of K1).trans (.of K2)).trans (.ofS S0)
    generalize upd H2 tt (.tup [v1, v2]) = H0 at *
    refine rd_gtup htt' rfl ?_
    fail "z run"
    clear htt' htt S0 P1 P2 T2 K1 K2
    -- signed
    simp only [List.set_cons_succ, List.set_cons_zero]
    refine ⟨T0, fun Ha Xa Ta => ?_⟩
    replace A1 := A1.ext Xa
    replace A2 := A2.ext Xa
    replace P0 := P0.ext Xa
    replace K0 := K0.trans (.ofN Xa)
    refine heard_cls (most := 56) (lo := sLo) (hi := sHi) rfl A1.plain fun t1 Hb Sb e1 => ?_
    replace A1 := A1.same Sb
    replace A2 := A2.same Sb
    replace P0 := P0.same Sb
    replace K0 := K0.trans (.ofS Sb)
    replace Ta := Ta.ext Sb
    clear Xa Sb T0
    fail "z run"
    refine ⟨few (Nat.le_of_ble_eq_true rfl), fun l zl hl => ?_⟩
    have Sc := same_new (o := .lst [.ref t1]) hl
    have bl : upd Hb l (.lst [.ref t1]) l = some (.lst [.ref t1]) := upd_same
    have nl := P0.ne' hl
    have kl : KpT p H Hb := K0
    replace A1 := A1.same Sc
    replace A2 := A2.same Sc
    replace P0 := P0.same Sc
    replace K0 := K0.trans (.ofS Sc)
    replace Ta := Ta.ext Sc
    replace e1 := e1.same Sc
    generalize upd Hb l (.lst [.ref t1]) = Hc at *
    clear Sc
    fail "z run"
    simp only [List.set_cons_succ, List.set_cons_zero]
    refine ⟨.inl ⟨rfl, _, SqL.of bl⟩, ?_⟩
    fail "z run"
    refine ⟨Ta, fun Hd Xd Td => ?_⟩
    replace A1 := A1.ext Xd
    replace A2 := A2.ext Xd
    replace P0 := P0.ext Xd
    replace K0 := K0.trans (.ofN Xd)
    replace e1 := e1.ext Xd
    replace bl := Xd _ _ bl fun _ z => nomatch z
    refine heard_cls (most := 56) (lo := sLo) (hi := sHi) rfl A1.plain fun t2 He Se e2 => ?_
    replace A1 := A1.same Se
    replace A2 := A2.same Se
    replace P0 := P0.same Se
    replace K0 := K0.trans (.ofS Se)
    replace Td := Td.ext Se
    replace e1 := e1.same Se
    replace bl := Se _ _ bl
    clear Xd Se Ta
    fail "z run"
    refine ⟨l, _, _, rfl, rfl, bl, small1000 (Nat.le_of_ble_eq_true rfl), ?_⟩
    rw [show ([V.ref t1] ++ [V.ref t2] : List V) = [.ref t1, .ref t2] from rfl]
    have bl2 : upd He l (.lst [.ref t1, .ref t2]) l = some (.lst [.ref t1, .ref t2]) := upd_same
    replace A1 := A1.put (o := .lst [.ref t1, .ref t2]) bl
    replace A2 := A2.put (o := .lst [.ref t1, .ref t2]) bl
    replace e1 := e1.put (o := .lst [.ref t1, .ref t2]) bl
    replace e2 := e2.put (o := .lst [.ref t1, .ref t2]) bl
    have Tf := tabs_upd (o := .lst [.ref t1, .ref t2]) Td bl
    replace P0 : Pot (upd He l (.lst [.ref t1, .ref t2])) p (n + 2) := by
      obtain ⟨o, s, c, e, r⟩ := P0
      exact ⟨o, s, c, (upd_ne nl.symm).trans e, r⟩
    replace K0 : KpT p H (upd He l (.lst [.ref t1, .ref t2])) := fun b o nb nt e => (upd_ne (ne_of_none (kl b o nb nt e) hl)).trans (K0 b o nb nt e)
    generalize upd He l (.lst [.ref t1, .ref t2]) = Hf at *
    clear bl Td kl nl hl
    fail "z run"
    refine ⟨Tf, fun Hg Xg Tg => ?_⟩
    replace A1 := A1.ext Xg
    replace A2 := A2.ext Xg
    replace P0 := P0.ext Xg
    replace K0 := K0.trans (.ofN Xg)
    replace e1 := e1.ext Xg
    replace e2 := e2.ext Xg
    replace bl2 := Xg _ _ bl2 fun _ z => nomatch z
    refine due_of (most := 56) (lo := sLo) (hi := sHi) A1.plain (fun j ej j1 j2 Q' hQ => ?_) fun t3 Hh Sh e3 => ?_
    · subst ej
      fail "z run"
      refine ⟨j - 1, rfl, by omega, by omega, ?_⟩
      fail "z run"
      refine ⟨j - 1, rfl, by omega, by omega, ?_⟩
      fail "z run"
      intro t ht
      exact hQ t _ (same_new ht) upd_same
    replace A1 := A1.same Sh
    replace A2 := A2.same Sh
    replace P0 := P0.same Sh
    replace K0 := K0.trans (.ofS Sh)
    replace Tg := Tg.ext Sh
    replace e1 := e1.same Sh
    replace e2 := e2.same Sh
    replace bl2 := Sh _ _ bl2
    clear Xg Sh Tf
    fail "z run"
    simp only [List.set_cons_succ, List.set_cons_zero]
    obtain ⟨d, hd, sd⟩ := A1.data
    have sz := sz_told (v := v1) (most := 56) (lo := sLo) (hi := sHi) sd bnd_s
    have sz2 := sz_list (sz_cons sz (sz_cons sz sz_nil))
    refine rd_reprZ (.lst zl bl2 (.cons (e1.dz hd) (.cons (e2.dz hd) .nil))) sz2 (by decide) (by decide) ?_
    fail "z run"
    refine ⟨few (Nat.le_of_ble_eq_true rfl), fun l2 zl2 hl2 => ?_⟩
    have Si := same_new (o := .lst [.ref t3, .ref t3]) hl2
    have bl3 : upd Hh l2 (.lst [.ref t3, .ref t3]) l2 = some (.lst [.ref t3, .ref t3]) := upd_same
    replace A1 := A1.same Si
    replace A2 := A2.same Si
    replace P0 := P0.same Si
    replace K0 := K0.trans (.ofS Si)
    have T0 := Tg.ext Si
    replace e3 := e3.same Si
    replace hd := hd.same Si
    generalize upd Hh l2 (.lst [.ref t3, .ref t3]) = Hi at *
    fail "z run"
    refine rd_reprZ (.lst zl2 bl3 (.cons (e3.dz hd) (.cons (e3.dz hd) .nil))) sz2 (by decide) (by decide) ?_
    fail "z run"
    refine rd_iteB (fun h => absurd h (by simp)) (fun _ => ?_)
    fail "z run"
    clear Si bl3 e3 hd bl2 e1 e2 Tg sd sz sz2 zl zl2 hl2
    -- unsigned
    simp only [List.set_cons_succ, List.set_cons_zero]
    refine ⟨T0, fun Ha Xa Ta => ?_⟩
    replace A1 := A1.ext Xa
    replace A2 := A2.ext Xa
    replace P0 := P0.ext Xa
    replace K0 := K0.trans (.ofN Xa)
    refine heard_cls (most := 56) (lo := uLo) (hi := uHi) rfl A1.plain fun t1 Hb Sb e1 => ?_
    replace A1 := A1.same Sb
    replace A2 := A2.same Sb
    replace P0 := P0.same Sb
    replace K0 := K0.trans (.ofS Sb)
    replace Ta := Ta.ext Sb
    clear Xa Sb T0
    fail "z run"
    refine ⟨few (Nat.le_of_ble_eq_true rfl), fun l zl hl => ?_⟩
    have Sc := same_new (o := .lst [.ref t1]) hl
    have bl : upd Hb l (.lst [.ref t1]) l = some (.lst [.ref t1]) := upd_same
    have nl := P0.ne' hl
    have kl : KpT p H Hb := K0
    replace A1 := A1.same Sc
    replace A2 := A2.same Sc
    replace P0 := P0.same Sc
    replace K0 := K0.trans (.ofS Sc)
    replace Ta := Ta.ext Sc
    replace e1 := e1.same Sc
    generalize upd Hb l (.lst [.ref t1]) = Hc at *
    clear Sc
    fail "z run"
    simp only [List.set_cons_succ, List.set_cons_zero]
    refine ⟨.inl ⟨rfl, _, SqL.of bl⟩, ?_⟩
    fail "z run"
    refine ⟨Ta, fun Hd Xd Td => ?_⟩
    replace A1 := A1.ext Xd
    replace A2 := A2.ext Xd
    replace P0 := P0.ext Xd
    replace K0 := K0.trans (.ofN Xd)
    replace e1 := e1.ext Xd
    replace bl := Xd _ _ bl fun _ z => nomatch z
    refine heard_cls (most := 56) (lo := uLo) (hi := uHi) rfl A1.plain fun t2 He Se e2 => ?_
    replace A1 := A1.same Se
    replace A2 := A2.same Se
    replace P0 := P0.same Se
    replace K0 := K0.trans (.ofS Se)
    replace Td := Td.ext Se
    replace e1 := e1.same Se
    replace bl := Se _ _ bl
    clear Xd Se Ta
    fail "z run"
    refine ⟨l, _, _, rfl, rfl, bl, small1000 (Nat.le_of_ble_eq_true rfl), ?_⟩
    rw [show ([V.ref t1] ++ [V.ref t2] : List V) = [.ref t1, .ref t2] from rfl]
    have bl2 : upd He l (.lst [.ref t1, .ref t2]) l = some (.lst [.ref t1, .ref t2]) := upd_same
    replace A1 := A1.put (o := .lst [.ref t1, .ref t2]) bl
    replace A2 := A2.put (o := .lst [.ref t1, .ref t2]) bl
    replace e1 := e1.put (o := .lst [.ref t1, .ref t2]) bl
    replace e2 := e2.put (o := .lst [.ref t1, .ref t2]) bl
    have Tf := tabs_upd (o := .lst [.ref t1, .ref t2]) Td bl
    replace P0 : Pot (upd He l (.lst [.ref t1, .ref t2])) p (n + 2) := by
      obtain ⟨o, s, c, e, r⟩ := P0
      exact ⟨o, s, c, (upd_ne nl.symm).trans e, r⟩
    replace K0 : KpT p H (upd He l (.lst [.ref t1, .ref t2])) := fun b o nb nt e => (upd_ne (ne_of_none (kl b o nb nt e) hl)).trans (K0 b o nb nt e)
    generalize upd He l (.lst [.ref t1, .ref t2]) = Hf at *
    clear bl Td kl nl hl
    fail "z run"
    refine ⟨Tf, fun Hg Xg Tg => ?_⟩
    replace A1 := A1.ext Xg
    replace A2 := A2.ext Xg
    replace P0 := P0.ext Xg
    replace K0 := K0.trans (.ofN Xg)
    replace e1 := e1.ext Xg
    replace e2 := e2.ext Xg
    replace bl2 := Xg _ _ bl2 fun _ z => nomatch z
    refine due_of (most := 56) (lo := uLo) (hi := uHi) A1.plain (fun j ej j1 j2 Q' hQ => ?_) fun t3 Hh Sh e3 => ?_
    · subst ej
      fail "z run"
      refine ⟨j, rfl, by omega, by omega, ?_⟩
      fail "z run"
      intro t ht
      exact hQ t _ (same_new ht) upd_same
    replace A1 := A1.same Sh
    replace A2 := A2.same Sh
    replace P0 := P0.same Sh
    replace K0 := K0.trans (.ofS Sh)
    replace Tg := Tg.ext Sh
    replace e1 := e1.same Sh
    replace e2 := e2.same Sh
    replace bl2 := Sh _ _ bl2
    clear Xg Sh Tf
    fail "z run"
    simp only [List.set_cons_succ, List.set_cons_zero]
    obtain ⟨d, hd, sd⟩ := A1.data
    have sz := sz_told (v := v1) (most := 56) (lo := uLo) (hi := uHi) sd bnd_u
    have sz2 := sz_list (sz_cons sz (sz_cons sz sz_nil))
    refine rd_reprZ (.lst zl bl2 (.cons (e1.dz hd) (.cons (e2.dz hd) .nil))) sz2 (by decide) (by decide) ?_
    fail "z run"
    refine ⟨few (Nat.le_of_ble_eq_true rfl), fun l2 zl2 hl2 => ?_⟩
    have Si := same_new (o := .lst [.ref t3, .ref t3]) hl2
    have bl3 : upd Hh l2 (.lst [.ref t3, .ref t3]) l2 = some (.lst [.ref t3, .ref t3]) := upd_same
    replace A1 := A1.same Si
    replace A2 := A2.same Si
    replace P0 := P0.same Si
    replace K0 := K0.trans (.ofS Si)
    have T0 := Tg.ext Si
    replace e3 := e3.same Si
    replace hd := hd.same Si
    generalize upd Hh l2 (.lst [.ref t3, .ref t3]) = Hi at *
    fail "z run"
    refine rd_reprZ (.lst zl2 bl3 (.cons (e3.dz hd) (.cons (e3.dz hd) .nil))) sz2 (by decide) (by decide) ?_
    fail "z run"
    refine rd_iteB (fun h => absurd h (by simp)) (fun _ => ?_)
    fail "z run"
    clear Si bl3 e3 hd bl2 e1 e2 Tg sd sz sz2 zl zl2 hl2
    -- digits
    simp only [List.set_cons_succ, List.set_cons_zero]
    refine ⟨T0, fun Ha Xa Ta => ?_⟩
    replace A1 := A1.ext Xa
    replace A2 := A2.ext Xa
    replace P0 := P0.ext Xa
    replace K0 := K0.trans (.ofN Xa)
    refine heard_cls (most := 17) (lo := uLo) (hi := dHi) rfl A2.plain fun t1 Hb Sb e1 => ?_
    replace A1 := A1.same Sb
    replace A2 := A2.same Sb
    replace P0 := P0.same Sb
    replace K0 := K0.trans (.ofS Sb)
    replace Ta := Ta.ext Sb
    clear Xa Sb T0
    fail "z run"
    refine ⟨few (Nat.le_of_ble_eq_true rfl), fun l zl hl => ?_⟩
    have Sc := same_new (o := .lst [.ref t1]) hl
    have bl : upd Hb l (.lst [.ref t1]) l = some (.lst [.ref t1]) := upd_same
    have nl := P0.ne' hl
    have kl : KpT p H Hb := K0
    replace A1 := A1.same Sc
    replace A2 := A2.same Sc
    replace P0 := P0.same Sc
    replace K0 := K0.trans (.ofS Sc)
    replace Ta := Ta.ext Sc
    replace e1 := e1.same Sc
    generalize upd Hb l (.lst [.ref t1]) = Hc at *
    clear Sc
    fail "z run"
    simp only [List.set_cons_succ, List.set_cons_zero]
    refine ⟨.inl ⟨rfl, _, SqL.of bl⟩, ?_⟩
    fail "z run"
    refine ⟨Ta, fun Hd Xd Td => ?_⟩
    replace A1 := A1.ext Xd
    replace A2 := A2.ext Xd
    replace P0 := P0.ext Xd
    replace K0 := K0.trans (.ofN Xd)
    replace e1 := e1.ext Xd
    replace bl := Xd _ _ bl fun _ z => nomatch z
    refine heard_cls (most := 17) (lo := uLo) (hi := dHi) rfl A2.plain fun t2 He Se e2 => ?_
    replace A1 := A1.same Se
    replace A2 := A2.same Se
    replace P0 := P0.same Se
    replace K0 := K0.trans (.ofS Se)
    replace Td := Td.ext Se
    replace e1 := e1.same Se
    replace bl := Se _ _ bl
    clear Xd Se Ta
    fail "z run"
    refine ⟨l, _, _, rfl, rfl, bl, small1000 (Nat.le_of_ble_eq_true rfl), ?_⟩
    rw [show ([V.ref t1] ++ [V.ref t2] : List V) = [.ref t1, .ref t2] from rfl]
    have bl2 : upd He l (.lst [.ref t1, .ref t2]) l = some (.lst [.ref t1, .ref t2]) := upd_same
    replace A1 := A1.put (o := .lst [.ref t1, .ref t2]) bl
    replace A2 := A2.put (o := .lst [.ref t1, .ref t2]) bl
    replace e1 := e1.put (o := .lst [.ref t1, .ref t2]) bl
    replace e2 := e2.put (o := .lst [.ref t1, .ref t2]) bl
    have Tf := tabs_upd (o := .lst [.ref t1, .ref t2]) Td bl
    replace P0 : Pot (upd He l (.lst [.ref t1, .ref t2])) p (n + 2) := by
      obtain ⟨o, s, c, e, r⟩ := P0
      exact ⟨o, s, c, (upd_ne nl.symm).trans e, r⟩
    replace K0 : KpT p H (upd He l (.lst [.ref t1, .ref t2])) := fun b o nb nt e => (upd_ne (ne_of_none (kl b o nb nt e) hl)).trans (K0 b o nb nt e)
    generalize upd He l (.lst [.ref t1, .ref t2]) = Hf at *
    clear bl Td kl nl hl
    fail "z run"
    refine ⟨Tf, fun Hg Xg Tg => ?_⟩
    replace A1 := A1.ext Xg
    replace A2 := A2.ext Xg
    replace P0 := P0.ext Xg
    replace K0 := K0.trans (.ofN Xg)
    replace e1 := e1.ext Xg
    replace e2 := e2.ext Xg
    replace bl2 := Xg _ _ bl2 fun _ z => nomatch z
    refine due_of (most := 17) (lo := uLo) (hi := dHi) A2.plain (fun j ej j1 j2 Q' hQ => ?_) fun t3 Hh Sh e3 => ?_
    · subst ej
      fail "z run"
      refine ⟨_, _, rfl, rfl, nine_ok j1 j2, ?_⟩
      fail "z run"
      refine ⟨_, _, rfl, (nine j1 j2).1, (nine j1 j2).2, ?_⟩
      fail "z run"
      intro t ht
      exact hQ t _ (same_new ht) upd_same
    replace A1 := A1.same Sh
    replace A2 := A2.same Sh
    replace P0 := P0.same Sh
    replace K0 := K0.trans (.ofS Sh)
    replace Tg := Tg.ext Sh
    replace e1 := e1.same Sh
    replace e2 := e2.same Sh
    replace bl2 := Sh _ _ bl2
    clear Xg Sh Tf
    fail "z run"
    simp only [List.set_cons_succ, List.set_cons_zero]
    obtain ⟨d, hd, sd⟩ := A2.data
    have sz := sz_told (v := v2) (most := 17) (lo := uLo) (hi := dHi) sd bnd_d
    have sz2 := sz_list (sz_cons sz (sz_cons sz sz_nil))
    refine rd_reprZ (.lst zl bl2 (.cons (e1.dz hd) (.cons (e2.dz hd) .nil))) sz2 (by decide) (by decide) ?_
    fail "z run"
    refine ⟨few (Nat.le_of_ble_eq_true rfl), fun l2 zl2 hl2 => ?_⟩
    have Si := same_new (o := .lst [.ref t3, .ref t3]) hl2
    have bl3 : upd Hh l2 (.lst [.ref t3, .ref t3]) l2 = some (.lst [.ref t3, .ref t3]) := upd_same
    replace A1 := A1.same Si
    replace A2 := A2.same Si
    replace P0 := P0.same Si
    replace K0 := K0.trans (.ofS Si)
    have T0 := Tg.ext Si
    replace e3 := e3.same Si
    replace hd := hd.same Si
    generalize upd Hh l2 (.lst [.ref t3, .ref t3]) = Hi at *
    fail "z run"
    refine rd_reprZ (.lst zl2 bl3 (.cons (e3.dz hd) (.cons (e3.dz hd) .nil))) sz2 (by decide) (by decide) ?_
    fail "z run"
    refine rd_iteB (fun h => absurd h (by simp)) (fun _ => ?_)
    fail "z run"
    clear Si bl3 e3 hd bl2 e1 e2 Tg sd sz sz2 zl zl2 hl2
    refine ⟨p, n + 1, 56, rfl, P0, by decide, by decide, fun r1 Ha a1 b1 Ka Pa => ?_⟩
    fail "z run"
    refine ⟨p, n, 56, rfl, Pa, by decide, by decide, fun r2 Hb a2 b2 Kb Pb => ?_⟩
    have Tb := tabs_kp (tabs_kp T0 P0 Ka) Pa Kb
    have K1 : KpT p H Hb := (K0.trans (.of Ka)).trans (.of Kb)
    fail "z run"
    obtain ⟨x, ex⟩ : ∃ x, x = 1 + r1 := ⟨_, rfl⟩
    obtain ⟨y, ey⟩ : ∃ y, y = 1 + r2 := ⟨_, rfl⟩
    rw [← ex, ← ey]
    have x1 : 1 ≤ x := by omega
    have x2 : x ≤ 56 := by omega
    have y1 : 1 ≤ y := by omega
    have y2 : y ≤ 56 := by omega
    simp only [List.set_cons_succ, List.set_cons_zero]
    fail "z run"
    refine rd_cls rfl x1 x2 fun k1 Hc n1 S1 i1 => ?_
    fail "z run"
    refine rd_cls rfl y1 y2 fun k2 Hd n2 S2 i2 => ?_
    replace i1 := i1.same S2
    fail "z run"
    refine rd_own i1 i2 ⟨_, _, _, _, _, _, rfl, i1, i2, ?_⟩
    rw [le_uu x1 y1]
    fail "z run"
    refine rd_cls rfl x1 x2 fun k3 He n3 S3 i3 => ?_
    fail "z run"
    refine rd_cls rfl y1 y2 fun k4 Hf n4 S4 i4 => ?_
    replace i3 := i3.same S4
    fail "z run"
    refine rd_own i3 i4 ⟨_, _, _, _, _, _, rfl, i3, i4, ?_⟩
    rw [le_ss x1 y1]
    fail "z run"
    intro l4 hl4
    have SA := (S1.trans S2).trans (S3.trans S4)
    have S5 := same_new (o := .lst [.bl (decide (x ≤ y)), .bl (decide (x ≤ y))]) hl4
    have bl4 : upd Hf l4 (.lst [.bl (decide (x ≤ y)), .bl (decide (x ≤ y))]) l4 = some (.lst [.bl (decide (x ≤ y)), .bl (decide (x ≤ y))]) := upd_same
    have nl4 := (Pb.same SA).ne' hl4
    have kl4 : KpT p H Hf := K1.trans (.ofS SA)
    have P6 := (Pb.same SA).same S5
    have T6 := (Tb.ext SA).ext S5
    have K6 := kl4.trans (.ofS S5)
    generalize upd Hf l4 (.lst [.bl (decide (x ≤ y)), .bl (decide (x ≤ y))]) = Hg at *
    fail "z run"
    simp only [List.set_cons_succ, List.set_cons_zero]
    refine ⟨.inl ⟨rfl, _, SqL.of bl4⟩, ?_⟩
    fail "z run"
    refine rd_cls rfl x1 x2 fun k5 Hh n5 S6 i5 => ?_
    fail "z run"
    refine rd_cls rfl y1 y2 fun k6 Hi n6 S7 i6 => ?_
    replace i5 := i5.same S7
    fail "z run"
    refine rd_own i5 i6 ⟨_, _, _, _, _, _, rfl, i5, i6, ?_⟩
    rw [le_us x1 y1]
    fail "z run"
    replace bl4 := S7 _ _ (S6 _ _ bl4)
    have K7 := (K6.trans (.ofS S6)).trans (.ofS S7)
    have P7 := (P6.same S6).same S7
    have T7 := (T6.ext S6).ext S7
    refine ⟨l4, _, _, rfl, rfl, bl4, small1000 (Nat.le_of_ble_eq_true rfl), ?_⟩
    rw [show ([V.bl (decide (x ≤ y)), .bl (decide (x ≤ y))] ++ [V.bl (decide (x < y))] : List V) = [.bl (decide (x ≤ y)), .bl (decide (x ≤ y)), .bl (decide (x < y))] from rfl]
    have bl5 : upd Hi l4 (.lst [.bl (decide (x ≤ y)), .bl (decide (x ≤ y)), .bl (decide (x < y))]) l4 = some (.lst [.bl (decide (x ≤ y)), .bl (decide (x ≤ y)), .bl (decide (x < y))]) := upd_same
    have P8 : Pot (upd Hi l4 (.lst [.bl (decide (x ≤ y)), .bl (decide (x ≤ y)), .bl (decide (x < y))])) p n := by
      obtain ⟨o, s, c, e, r⟩ := P7
      exact ⟨o, s, c, (upd_ne nl4.symm).trans e, r⟩
    have T8 := tabs_upd (o := .lst [.bl (decide (x ≤ y)), .bl (decide (x ≤ y)), .bl (decide (x < y))]) T7 bl4
    have K8 : KpT p H (upd Hi l4 (.lst [.bl (decide (x ≤ y)), .bl (decide (x ≤ y)), .bl (decide (x < y))])) := fun b o nb nt e => (upd_ne (ne_of_none (kl4 b o nb nt e) hl4)).trans (K7 b o nb nt e)
    generalize upd Hi l4 (.lst [.bl (decide (x ≤ y)), .bl (decide (x ≤ y)), .bl (decide (x < y))]) = Hj at *
    fail "z run"
    intro l5 hl5
    have S9 := same_new (o := .lst [.bl (decide (x ≤ y)), .bl (decide (x ≤ y)), .bl (decide (x < y))]) hl5
    refine rd_eqD (d := .list [.bool (decide (x ≤ y)), .bool (decide (x ≤ y)), .bool (decide (x < y))]) (e := .list [.bool (decide (x ≤ y)), .bool (decide (x ≤ y)), .bool (decide (x < y))]) (.lst (SqL.of (S9 _ _ bl5)) (.cons (.bl _) (.cons (.bl _) (.cons (.bl _) .nil)))) (.lst (SqL.of upd_same) (.cons (.bl _) (.cons (.bl _) (.cons (.bl _) .nil))))
      (sm_list (k := 0) (sm_cons (sm_bool _) (sm_cons (sm_bool _) (sm_cons (sm_bool _) sm_nil)))) (sm_list (k := 0) (sm_cons (sm_bool _) (sm_cons (sm_bool _) (sm_cons (sm_bool _) sm_nil)))) (by decide) (by decide) ?_
    rw [eqv3]
    fail "z run"
    exact k _ (K8.trans (.ofS S9)) (P8.same S9) (T8.ext S9)
/-! ### k03: the law -/
abbrev s_law : Stmt := (top 27)
abbrev N_law : List Str := ["_law_script", "_law_k", "_law_pot", "_law_turn"]
abbrev P_law : List Str := ["_law_script"]
theorem sc_law : FnScope N_law P_law (defScope s_law) := ⟨rfl, rfl, rfl, by decide +kernel, rfl, by decide +kernel, by decide +kernel⟩

def spLaw (K : PySem.W.Frag) (PT : Addr) : Sp := fun vs H Q _ => ∃ (a : Addr) (ns : List Int), vs = [.ref a] ∧ H PT = some (.tbl #[]) ∧ SqL K H a (ns.map V.int) ∧ ns.length ≤ 63 ∧ ∀ H', Q (.bl true) H'
theorem sql_kpT {K : PySem.W.Frag} {H H1 H2 : Hp} {a p : Addr} {xs : List V} (h : SqL K H a xs) (hp : H p = none) (s : Same H H1) (k : KpT p H1 H2) : SqL K H2 a xs := by
  rcases h with (h | ⟨o, h⟩) | h
  · exact .inl (.inl (k _ _ (ne_of_none h hp) (fun _ z => by cases z) (s _ _ h)))
  · exact .inl (.inr ⟨o, k _ _ (ne_of_none h hp) (fun _ z => by cases z) (s _ _ h)⟩)
  · exact .inr h
theorem ok_law {f PT : Addr} {fd : FuncData} (F : Fun K "law" "law" s_law f fd) (T : Txt mg) (c_pot : Cal P w K mg base 1 "_law_pot_of" P__law_pot_of (spPotOf K))
    (c_right : CalG P w K mg base 7 "_law_right" P__law_right (spRightT PT 6)) : FnG P w K mg base CX0 8 f fd P_law (spLaw K PT) := by
  obtain ⟨f_pot, fd_pot, G__law_pot_of, b__law_pot_of, g__law_pot_of, k__law_pot_of⟩ := c_pot
  obtain ⟨f_right, fd_right, G__law_right, b__law_right, g__law_right, k__law_right⟩ := c_right
  refine Fun_okG F sc_law (fun vs H Q E h => ?_) (fun cdv A outer s H vs Q E calm hr h => ?_)
  · obtain ⟨a, ns, rfl, _⟩ := h
    rfl
  · obtain ⟨a, ns, rfl, hP, hS, few, k⟩ := h
    have tb0 : LamX.Tabs [(PT, qLam)] H := fun q hq => by
      rw [List.mem_singleton.mp hq]
      exact LamX.TabS.nil hP
    refine ⟨_, (pss_cons (ps_for PassesOwn.never rfl (pi_range1 rfl T.n_range (pa_cons (pe_callB (call_max2 rfl) (by rfl) T.n_max (by decide +kernel) (pa_cons pe_int (pa_cons (pe_callB (call_min2 rfl) (by rfl) T.n_min (by decide +kernel) (pa_cons pe_int (pa_cons (pe_callB call_len_seq (by rfl) T.n_len (by decide +kernel) (pa_cons (pv 0) pa_nil)) pa_nil))) pa_nil))) pa_nil)) (pg_name (i := 1) sc_law.nd rfl (Or.inl rfl)) (pss_cons (ps_set (i := 2) sc_law.nd rfl (Or.inr rfl) (pe_call G__law_pot_of (hr.mono (by decide)) rfl g__law_pot_of k__law_pot_of b__law_pot_of .nil pass0 (pa_cons (pv 0) (pa_cons (pv 1) pa_nil))))
      (pss_one (ps_if (pt_not (pt_val (pe_callB (cr_all rfl) (by rfl) T.n_all (by decide +kernel) (pa_cons (pe_lc (own := [("_law_turn", 3)]) (g := gName 3) (tt := tYes) rfl sc_law.nd (pi_range1 rfl T.n_range (pa_cons pe_int pa_nil)) (blkOk_by (N := N_law) (sc := defScope s_law) (by decide +kernel)) (fun _ _ _ _ _ => (pg_name (i := 3) sc_law.nd rfl (Or.inl rfl))) (fun _ _ _ _ _ => pts_nil) (fun _ _ _ _ _ => (pe_callG calm G__law_right (hr.mono (by decide)) rfl g__law_right k__law_right b__law_right pass0 (pa_cons (pv 2) pa_nil)))) pa_nil)))) (pss_one (ps_ret pe_bl)) pss_nil))))
      (pss_one (ps_ret pe_bl))), ?_⟩
    fail "z run"
    with_reducible refine rd_for ?_
    with_reducible refine rd_rng1 ?_
    fail "z run"
    refine rd_lenLs hS ?_
    fail "z run"
    refine ⟨by split <;> (try split) <;> omega, by split <;> (try split) <;> omega, for_range (lo := 0) (fun i σ H' => ∃ v1 v2 v3, σ = [some (.ref a), v1, v2, v3] ∧ SqL K H' a (ns.map V.int) ∧ LamX.Tabs [(PT, qLam)] H') ⟨none, none, none, rfl, hS, tb0⟩ ?_ ?_⟩
    · rintro i σ H' hi ⟨v1, v2, v3, rfl, hS', tb1⟩
      have i2 : i ≤ 2 := by
        split at hi <;> (try split at hi) <;> omega
      fail "z run"
      refine ⟨a, ns, _, rfl, hS', by omega, by omega, by omega, fun p H1 np S1 P1 => ?_⟩
      fail "z run"
      unfold tLc
      with_reducible refine rd_rng1 ?_
      fail "z run"
      refine ⟨by decide, by decide, fun D hD => lc_range (lo := 0) (n := 12) (fun j H2 => KpT p H1 H2 ∧ LamX.Tabs [(PT, qLam)] H2 ∧ Pot H2 p (6 * (12 - j)) ∧ H2 D = some (.lst (List.replicate j (V.bl true)))) ?_ ?_ ?_⟩
      · exact ⟨.ofS (same_new hD), (tb1.ext S1).ext (same_new hD), (P1.new hD).le (by decide), upd_same⟩
      · rintro j H2 hj ⟨K2, T2, P2, hL⟩
        have nDp : D ≠ p := fun e => by
          obtain ⟨x, y, z, ep, _⟩ := P1
          rw [e, ep] at hD
          cases hD
        have e20 : 6 * (12 - j) = (6 * (12 - (j + 1))) + 6 := by omega
        rw [e20] at P2
        fail "z run"
        refine ⟨rfl, ?_⟩
        unfold tYes
        refine iteT ?_
        fail "z run"
        refine ⟨p, _, rfl, P2, T2, fun H4 K4 P4 T4 => ?_⟩
        have hL4 := K4 _ _ nDp (fun _ z => by cases z) hL
        refine ⟨_, hL4, Nat.lt_of_le_of_lt (by rw [List.length_replicate]; exact Nat.le_of_lt hj) (small1000 (by decide)), fun b o nb nt e => ?_, tabs_upd T4 hL4, ?_, ?_⟩
        · rw [upd_ne (ne_of_none e hD)]
          exact K4 _ _ nb nt (K2 _ _ nb nt e)
        · obtain ⟨x, y, z, ep, r⟩ := P4.le (m := 6 * (12 - (j + 1))) (by omega)
          exact ⟨x, y, z, (upd_ne nDp.symm).trans ep, r⟩
        · rw [rep_snoc]
          exact upd_same
      · rintro H2 ⟨K2, T2, P2, hL⟩
        fail "z run"
        refine ⟨D, List.replicate 12 true, rfl, SqL.of (by rw [List.map_replicate]; exact hL), ?_⟩
        rw [all_rep]
        fail "z run"
        refine iteF ?_
        fail "z run"
        exact ⟨_, _, _, rfl, sql_kpT hS' np S1 K2, T2⟩
    · rintro σ H' ⟨v1, v2, v3, rfl, hS', tb1⟩
      fail "z run"
      exact k H'
end
theorem all_mk {l : PySem.W.OpenLaw} {w : World} {K : PySem.W.Frag} {h : Heap} {mg : Str → Option Value} {fa : Addr}
    {C : Addr}
    {tb td : Tok}
    {CW : Addr}
    {C_BadBits : Addr} {nmBadBits qBadBits : Str} {NBadBits : Addr} {bsBadBits : List Value} {snBadBits : List Str} {subBadBits : List Value} {abBadBits : Bool} {colBadBits : Option Bool} {ddBadBits : Option Addr} {m0BadBits m1BadBits m2BadBits m3BadBits m5BadBits : Option Value}
    {fBadBits___init__ : Addr} {odBadBits___init__ anBadBits___init__ : Option Addr} {slBadBits___init__ : Array (Option Value)} {ocBadBits___init__ kVBadBits___init__ dcBadBits___init__ pmBadBits___init__ cdBadBits___init__ ctBadBits___init__ : Value}
    {fis_integer : Addr} {odis_integer anis_integer : Option Addr} {slis_integer : Array (Option Value)} {ocis_integer kVis_integer dcis_integer pmis_integer cdis_integer ctis_integer : Value}
    {fis_between : Addr} {odis_between anis_between : Option Addr} {slis_between : Array (Option Value)} {ocis_between kVis_between dcis_between pmis_between cdis_between ctis_between : Value}
    {fKind___init__ : Addr} {odKind___init__ anKind___init__ : Option Addr} {slKind___init__ : Array (Option Value)} {ocKind___init__ kVKind___init__ dcKind___init__ pmKind___init__ cdKind___init__ ctKind___init__ : Value}
    {fKind___le__ : Addr} {odKind___le__ anKind___le__ : Option Addr} {slKind___le__ : Array (Option Value)} {ocKind___le__ kVKind___le__ dcKind___le__ pmKind___le__ cdKind___le__ ctKind___le__ : Value}
    {f_power_of_ten : Addr} {od_power_of_ten an_power_of_ten : Option Addr} {sl_power_of_ten : Array (Option Value)} {oc_power_of_ten kV_power_of_ten dc_power_of_ten pm_power_of_ten cd_power_of_ten ct_power_of_ten : Value}
    {fKind_signed : Addr} {odKind_signed anKind_signed : Option Addr} {slKind_signed : Array (Option Value)} {ocKind_signed kVKind_signed dcKind_signed pmKind_signed cdKind_signed ctKind_signed : Value}
    {pKind_signed : Addr} {restKind_signed : List Value}
    {fKind_unsigned : Addr} {odKind_unsigned anKind_unsigned : Option Addr} {slKind_unsigned : Array (Option Value)} {ocKind_unsigned kVKind_unsigned dcKind_unsigned pmKind_unsigned cdKind_unsigned ctKind_unsigned : Value}
    {pKind_unsigned : Addr} {restKind_unsigned : List Value}
    {fKind_digits : Addr} {odKind_digits anKind_digits : Option Addr} {slKind_digits : Array (Option Value)} {ocKind_digits kVKind_digits dcKind_digits pmKind_digits cdKind_digits ctKind_digits : Value}
    {pKind_digits : Addr} {restKind_digits : List Value}
    {f_law_pot_of : Addr} {od_law_pot_of an_law_pot_of : Option Addr} {sl_law_pot_of : Array (Option Value)} {oc_law_pot_of kV_law_pot_of dc_law_pot_of pm_law_pot_of cd_law_pot_of ct_law_pot_of : Value}
    {f_law_take : Addr} {od_law_take an_law_take : Option Addr} {sl_law_take : Array (Option Value)} {oc_law_take kV_law_take dc_law_take pm_law_take cd_law_take ct_law_take : Value}
    {f_law_of : Addr} {od_law_of an_law_of : Option Addr} {sl_law_of : Array (Option Value)} {oc_law_of kV_law_of dc_law_of pm_law_of cd_law_of ct_law_of : Value}
    {f_law_doubled : Addr} {od_law_doubled an_law_doubled : Option Addr} {sl_law_doubled : Array (Option Value)} {oc_law_doubled kV_law_doubled dc_law_doubled pm_law_doubled cd_law_doubled ct_law_doubled : Value}
    {f_law_value : Addr} {od_law_value an_law_value : Option Addr} {sl_law_value : Array (Option Value)} {oc_law_value kV_law_value dc_law_value pm_law_value cd_law_value ct_law_value : Value}
    {f_law_heard : Addr} {od_law_heard an_law_heard : Option Addr} {sl_law_heard : Array (Option Value)} {oc_law_heard kV_law_heard dc_law_heard pm_law_heard cd_law_heard ct_law_heard : Value}
    {f_law_due : Addr} {od_law_due an_law_due : Option Addr} {sl_law_due : Array (Option Value)} {oc_law_due kV_law_due dc_law_due pm_law_due cd_law_due ct_law_due : Value}
    {f_law_right : Addr} {od_law_right an_law_right : Option Addr} {sl_law_right : Array (Option Value)} {oc_law_right kV_law_right dc_law_right pm_law_right ct_law_right : Value}
    {flaw : Addr} {odlaw anlaw : Option Addr} {sllaw : Array (Option Value)} {oclaw kVlaw dclaw pmlaw cdlaw ctlaw : Value}
    {cR PT : Addr} {ocT : Value} {odT : Option Addr} {vsT : Array Value} {slT : Array (Option Value)}
    (X : K.In h) (G : h.Ns mainGlobals mg) (hfa : mg "law" = some (.ref fa))
    (haC : PySem.W.nsIn K mainGlobals "Kind" = some (some (.ref C)))
    (hpg : PySem.W.plainGet K C Str.empty = true)
    (hhd : PySem.W.hasDictIn K C = true)
    (hpo : PySem.W.plainOver K C = true)
    (hsa : PySem.W.findIn K (.ref C) "__setattr__" = some (some (.builtin "object.__setattr__")))
    (hmk : PySem.W.makesIn K C = true)
    (hkc : PySem.W.keepIn K (.ref C) = true)
    (hnlow : PySem.W.findIn K (.ref C) "low" = some none)
    (hnhigh : PySem.W.findIn K (.ref C) "high" = some none)
    (hnsize : PySem.W.findIn K (.ref C) "size" = some none)
    (heW0 : PySem.W.nsIn K mainGlobals "WidthError" = some (some (.ref CW)))
    (heW1 : PySem.W.subIn K (.ref CW) (.type "BaseException") = some true)
    (heW2 : PySem.W.hasDictIn K CW = true)
    (heW3 : PySem.W.typeIn K (.ref CW) = some (.type "type"))
    (heW4 : PySem.W.specialIn K (.builtin "object.__class__") "__get__" = some (some (.builtin "getset_descriptor.__get__")))
    (heW5 : PySem.W.takesIn K (.builtin "object.__class__") = some true)
    (heW6 : PySem.W.nsIn K mainGlobals "ValueError" = some none)
    (he0BadBits : PySem.W.nsIn K mainGlobals "BadBits" = some (some (.ref C_BadBits)))
    (he1BadBits : K.lookup C_BadBits = some (excClassObj nmBadBits qBadBits C_BadBits NBadBits bsBadBits [.ref CW, .type "ValueError", .type "Exception", .type "BaseException", .type "object"] true snBadBits subBadBits abBadBits colBadBits ddBadBits m0BadBits m1BadBits m2BadBits m3BadBits m5BadBits "ValueError.__new__"))
    (he2BadBits : PySem.W.findIn K (.ref C_BadBits) "__setattr__" = some (some (.builtin "object.__setattr__")))
    (he3BadBits : PySem.W.findIn K (.ref C_BadBits) "__getattribute__" = some (some (.builtin "BaseException.__getattribute__")))
    (he4BadBits : PySem.W.findIn K (.ref C_BadBits) "__getattr__" = some none)
    (he6BadBits : PySem.W.keepIn K (.ref C_BadBits) = true)
    (he7BadBits : PySem.W.subIn K (.ref C_BadBits) (.type "BaseException") = some true)
    (he8BadBits : PySem.W.typeIn K (.ref C_BadBits) = some (.type "type"))
    (he9BadBits : PySem.W.hasDictIn K C_BadBits = true)
    (heaBadBits : PySem.W.findIn K (.ref C_BadBits) "__class__" = some (some (.builtin "object.__class__")))
    (hebBadBits : PySem.W.mroIn K C_BadBits (.type "object") = some true)
    (hedBadBits : PySem.W.subIn K (.ref C_BadBits) (.type "ValueError") = some true)
    (heeBadBits : PySem.W.subIn K (.ref C_BadBits) (.ref CW) = some true)
    (hevBadBitsvalue : PySem.W.findIn K (.ref C_BadBits) "value" = some none)
    (hrd : PySem.W.readsIn K C (.type "type") = true)
    (hga : PySem.W.specialIn K (.ref C) "__getattribute__" = some (some (.builtin "type.__getattribute__")))
    (hgB : PySem.W.nsIn K mainGlobals "MOST_BITS" = some (some (.int 56 tb)))
    (hgD : PySem.W.nsIn K mainGlobals "MOST_DIGITS" = some (some (.int 17 td)))
    (heO1 : PySem.W.findIn K (.ref C) "__class__" = some (some (.builtin "object.__class__")))
    (heO4 : PySem.W.mroIn K C (.type "object") = some true)
    (heO5 : PySem.W.selfFirst K C = true)
    (heO6 : PySem.W.findIn K (.ref C) "__ne__" = some (some (.builtin "object.__ne__")))
    (haBadBits___init__ : PySem.W.findIn K (.ref C_BadBits) "__init__" = some (some (.ref fBadBits___init__)))
    (hiBadBits___init__ : PySem.W.isFn K (.ref fBadBits___init__) = true)
    (hlBadBits___init__ : K.lookup fBadBits___init__ = some ⟨ocBadBits___init__, odBadBits___init__, .func (PySem.W.fnOf "__init__" "BadBits.__init__" (defArgs s_BadBits___init__) (defBody s_BadBits___init__) (defScope s_BadBits___init__) .none kVBadBits___init__ dcBadBits___init__ pmBadBits___init__ anBadBits___init__ cdBadBits___init__ ctBadBits___init__), slBadBits___init__⟩)
    (hcBadBits___init__ : PySem.W.codeIn K cdBadBits___init__ "BadBits.__init__" = true)
    (hkBadBits___init__ : PySem.W.keepIn K (.ref fBadBits___init__) = true)
    (hais_integer : PySem.W.nsIn K mainGlobals "is_integer" = some (some (.ref fis_integer)))
    (hlis_integer : K.lookup fis_integer = some ⟨ocis_integer, odis_integer, .func (PySem.W.fnOf "is_integer" "is_integer" (defArgs s_is_integer) (defBody s_is_integer) (defScope s_is_integer) .none kVis_integer dcis_integer pmis_integer anis_integer cdis_integer ctis_integer), slis_integer⟩)
    (hcis_integer : PySem.W.codeIn K cdis_integer "is_integer" = true)
    (hkis_integer : PySem.W.keepIn K (.ref fis_integer) = true)
    (hais_between : PySem.W.nsIn K mainGlobals "is_between" = some (some (.ref fis_between)))
    (hlis_between : K.lookup fis_between = some ⟨ocis_between, odis_between, .func (PySem.W.fnOf "is_between" "is_between" (defArgs s_is_between) (defBody s_is_between) (defScope s_is_between) .none kVis_between dcis_between pmis_between anis_between cdis_between ctis_between), slis_between⟩)
    (hcis_between : PySem.W.codeIn K cdis_between "is_between" = true)
    (hkis_between : PySem.W.keepIn K (.ref fis_between) = true)
    (haKind___init__ : PySem.W.findIn K (.ref C) "__init__" = some (some (.ref fKind___init__)))
    (hiKind___init__ : PySem.W.isFn K (.ref fKind___init__) = true)
    (hlKind___init__ : K.lookup fKind___init__ = some ⟨ocKind___init__, odKind___init__, .func (PySem.W.fnOf "__init__" "Kind.__init__" (defArgs s_Kind___init__) (defBody s_Kind___init__) (defScope s_Kind___init__) .none kVKind___init__ dcKind___init__ pmKind___init__ anKind___init__ cdKind___init__ ctKind___init__), slKind___init__⟩)
    (hcKind___init__ : PySem.W.codeIn K cdKind___init__ "Kind.__init__" = true)
    (hkKind___init__ : PySem.W.keepIn K (.ref fKind___init__) = true)
    (haKind___le__ : PySem.W.findIn K (.ref C) "__le__" = some (some (.ref fKind___le__)))
    (hiKind___le__ : PySem.W.isFn K (.ref fKind___le__) = true)
    (hlKind___le__ : K.lookup fKind___le__ = some ⟨ocKind___le__, odKind___le__, .func (PySem.W.fnOf "__le__" "Kind.__le__" (defArgs s_Kind___le__) (defBody s_Kind___le__) (defScope s_Kind___le__) .none kVKind___le__ dcKind___le__ pmKind___le__ anKind___le__ cdKind___le__ ctKind___le__), slKind___le__⟩)
    (hcKind___le__ : PySem.W.codeIn K cdKind___le__ "Kind.__le__" = true)
    (hkKind___le__ : PySem.W.keepIn K (.ref fKind___le__) = true)
    (ha_power_of_ten : PySem.W.nsIn K mainGlobals "_power_of_ten" = some (some (.ref f_power_of_ten)))
    (hl_power_of_ten : K.lookup f_power_of_ten = some ⟨oc_power_of_ten, od_power_of_ten, .func (PySem.W.fnOf "_power_of_ten" "_power_of_ten" (defArgs s__power_of_ten) (defBody s__power_of_ten) (defScope s__power_of_ten) .none kV_power_of_ten dc_power_of_ten pm_power_of_ten an_power_of_ten cd_power_of_ten ct_power_of_ten), sl_power_of_ten⟩)
    (hc_power_of_ten : PySem.W.codeIn K cd_power_of_ten "_power_of_ten" = true)
    (hk_power_of_ten : PySem.W.keepIn K (.ref f_power_of_ten) = true)
    (hs1Kind_signed : PySem.W.findCls K (.ref C) (.type "type") "signed" = some (.get (.builtin "classmethod.__get__") (.ref pKind_signed) .none (.ref C)))
    (hs2Kind_signed : PySem.W.recIn K pKind_signed "classmethod" = some (.ref fKind_signed :: restKind_signed))
    (hs3Kind_signed : PySem.W.fnIn K fKind_signed = true)
    (hlKind_signed : K.lookup fKind_signed = some ⟨ocKind_signed, odKind_signed, .func (PySem.W.fnOf "signed" "Kind.signed" (defArgs s_Kind_signed) (defBody s_Kind_signed) (defScope s_Kind_signed) .none kVKind_signed dcKind_signed pmKind_signed anKind_signed cdKind_signed ctKind_signed), slKind_signed⟩)
    (hcKind_signed : PySem.W.codeIn K cdKind_signed "Kind.signed" = true)
    (hkKind_signed : PySem.W.keepIn K (.ref fKind_signed) = true)
    (hs1Kind_unsigned : PySem.W.findCls K (.ref C) (.type "type") "unsigned" = some (.get (.builtin "classmethod.__get__") (.ref pKind_unsigned) .none (.ref C)))
    (hs2Kind_unsigned : PySem.W.recIn K pKind_unsigned "classmethod" = some (.ref fKind_unsigned :: restKind_unsigned))
    (hs3Kind_unsigned : PySem.W.fnIn K fKind_unsigned = true)
    (hlKind_unsigned : K.lookup fKind_unsigned = some ⟨ocKind_unsigned, odKind_unsigned, .func (PySem.W.fnOf "unsigned" "Kind.unsigned" (defArgs s_Kind_unsigned) (defBody s_Kind_unsigned) (defScope s_Kind_unsigned) .none kVKind_unsigned dcKind_unsigned pmKind_unsigned anKind_unsigned cdKind_unsigned ctKind_unsigned), slKind_unsigned⟩)
    (hcKind_unsigned : PySem.W.codeIn K cdKind_unsigned "Kind.unsigned" = true)
    (hkKind_unsigned : PySem.W.keepIn K (.ref fKind_unsigned) = true)
    (hs1Kind_digits : PySem.W.findCls K (.ref C) (.type "type") "digits" = some (.get (.builtin "classmethod.__get__") (.ref pKind_digits) .none (.ref C)))
    (hs2Kind_digits : PySem.W.recIn K pKind_digits "classmethod" = some (.ref fKind_digits :: restKind_digits))
    (hs3Kind_digits : PySem.W.fnIn K fKind_digits = true)
    (hlKind_digits : K.lookup fKind_digits = some ⟨ocKind_digits, odKind_digits, .func (PySem.W.fnOf "digits" "Kind.digits" (defArgs s_Kind_digits) (defBody s_Kind_digits) (defScope s_Kind_digits) .none kVKind_digits dcKind_digits pmKind_digits anKind_digits cdKind_digits ctKind_digits), slKind_digits⟩)
    (hcKind_digits : PySem.W.codeIn K cdKind_digits "Kind.digits" = true)
    (hkKind_digits : PySem.W.keepIn K (.ref fKind_digits) = true)
    (ha_law_pot_of : PySem.W.nsIn K mainGlobals "_law_pot_of" = some (some (.ref f_law_pot_of)))
    (hl_law_pot_of : K.lookup f_law_pot_of = some ⟨oc_law_pot_of, od_law_pot_of, .func (PySem.W.fnOf "_law_pot_of" "_law_pot_of" (defArgs s__law_pot_of) (defBody s__law_pot_of) (defScope s__law_pot_of) .none kV_law_pot_of dc_law_pot_of pm_law_pot_of an_law_pot_of cd_law_pot_of ct_law_pot_of), sl_law_pot_of⟩)
    (hc_law_pot_of : PySem.W.codeIn K cd_law_pot_of "_law_pot_of" = true)
    (hk_law_pot_of : PySem.W.keepIn K (.ref f_law_pot_of) = true)
    (ha_law_take : PySem.W.nsIn K mainGlobals "_law_take" = some (some (.ref f_law_take)))
    (hl_law_take : K.lookup f_law_take = some ⟨oc_law_take, od_law_take, .func (PySem.W.fnOf "_law_take" "_law_take" (defArgs s__law_take) (defBody s__law_take) (defScope s__law_take) .none kV_law_take dc_law_take pm_law_take an_law_take cd_law_take ct_law_take), sl_law_take⟩)
    (hc_law_take : PySem.W.codeIn K cd_law_take "_law_take" = true)
    (hk_law_take : PySem.W.keepIn K (.ref f_law_take) = true)
    (ha_law_of : PySem.W.nsIn K mainGlobals "_law_of" = some (some (.ref f_law_of)))
    (hl_law_of : K.lookup f_law_of = some ⟨oc_law_of, od_law_of, .func (PySem.W.fnOf "_law_of" "_law_of" (defArgs s__law_of) (defBody s__law_of) (defScope s__law_of) .none kV_law_of dc_law_of pm_law_of an_law_of cd_law_of ct_law_of), sl_law_of⟩)
    (hc_law_of : PySem.W.codeIn K cd_law_of "_law_of" = true)
    (hk_law_of : PySem.W.keepIn K (.ref f_law_of) = true)
    (ha_law_doubled : PySem.W.nsIn K mainGlobals "_law_doubled" = some (some (.ref f_law_doubled)))
    (hl_law_doubled : K.lookup f_law_doubled = some ⟨oc_law_doubled, od_law_doubled, .func (PySem.W.fnOf "_law_doubled" "_law_doubled" (defArgs s__law_doubled) (defBody s__law_doubled) (defScope s__law_doubled) .none kV_law_doubled dc_law_doubled pm_law_doubled an_law_doubled cd_law_doubled ct_law_doubled), sl_law_doubled⟩)
    (hc_law_doubled : PySem.W.codeIn K cd_law_doubled "_law_doubled" = true)
    (hk_law_doubled : PySem.W.keepIn K (.ref f_law_doubled) = true)
    (ha_law_value : PySem.W.nsIn K mainGlobals "_law_value" = some (some (.ref f_law_value)))
    (hl_law_value : K.lookup f_law_value = some ⟨oc_law_value, od_law_value, .func (PySem.W.fnOf "_law_value" "_law_value" (defArgs s__law_value) (defBody s__law_value) (defScope s__law_value) .none kV_law_value dc_law_value pm_law_value an_law_value cd_law_value ct_law_value), sl_law_value⟩)
    (hc_law_value : PySem.W.codeIn K cd_law_value "_law_value" = true)
    (hk_law_value : PySem.W.keepIn K (.ref f_law_value) = true)
    (ha_law_heard : PySem.W.nsIn K mainGlobals "_law_heard" = some (some (.ref f_law_heard)))
    (hl_law_heard : K.lookup f_law_heard = some ⟨oc_law_heard, od_law_heard, .func (PySem.W.fnOf "_law_heard" "_law_heard" (defArgs s__law_heard) (defBody s__law_heard) (defScope s__law_heard) .none kV_law_heard dc_law_heard pm_law_heard an_law_heard cd_law_heard ct_law_heard), sl_law_heard⟩)
    (hc_law_heard : PySem.W.codeIn K cd_law_heard "_law_heard" = true)
    (hk_law_heard : PySem.W.keepIn K (.ref f_law_heard) = true)
    (ha_law_due : PySem.W.nsIn K mainGlobals "_law_due" = some (some (.ref f_law_due)))
    (hl_law_due : K.lookup f_law_due = some ⟨oc_law_due, od_law_due, .func (PySem.W.fnOf "_law_due" "_law_due" (defArgs s__law_due) (defBody s__law_due) (defScope s__law_due) .none kV_law_due dc_law_due pm_law_due an_law_due cd_law_due ct_law_due), sl_law_due⟩)
    (hc_law_due : PySem.W.codeIn K cd_law_due "_law_due" = true)
    (hk_law_due : PySem.W.keepIn K (.ref f_law_due) = true)
    (ha_law_right : PySem.W.nsIn K mainGlobals "_law_right" = some (some (.ref f_law_right)))
    (hl_law_right : K.lookup f_law_right = some ⟨oc_law_right, od_law_right, .func (PySem.W.fnOf "_law_right" "_law_right" (defArgs s__law_right) (defBody s__law_right) (defScope s__law_right) .none kV_law_right dc_law_right pm_law_right an_law_right (.ref cR) ct_law_right), sl_law_right⟩)
    (hc_law_right : PySem.W.codeIn K (.ref cR) "_law_right" = true)
    (hk_law_right : PySem.W.keepIn K (.ref f_law_right) = true)
    (halaw : PySem.W.nsIn K mainGlobals "law" = some (some (.ref flaw)))
    (hllaw : K.lookup flaw = some ⟨oclaw, odlaw, .func (PySem.W.fnOf "law" "law" (defArgs s_law) (defBody s_law) (defScope s_law) .none kVlaw dclaw pmlaw anlaw cdlaw ctlaw), sllaw⟩)
    (hclaw : PySem.W.codeIn K cdlaw "law" = true)
    (hklaw : PySem.W.keepIn K (.ref flaw) = true)
    (hefBadBits : PySem.W.typeIn K (.ref fBadBits___init__) = some (.type "function"))
    (heT0 : K.lookup cR = some ⟨ocT, odT, .fields vsT, slT⟩)
    (heT1 : vsT[11]? = some (.ref PT))
    (hzint : PySem.W.nsIn K mainGlobals "int" = some none)
    (hzlen : PySem.W.nsIn K mainGlobals "len" = some none)
    (hzabs : PySem.W.nsIn K mainGlobals "abs" = some none)
    (hzbool : PySem.W.nsIn K mainGlobals "bool" = some none)
    (hztuple : PySem.W.nsIn K mainGlobals "tuple" = some none)
    (hzisinstance : PySem.W.nsIn K mainGlobals "isinstance" = some none)
    (hzrange : PySem.W.nsIn K mainGlobals "range" = some none)
    (hzmax : PySem.W.nsIn K mainGlobals "max" = some none)
    (hzmin : PySem.W.nsIn K mainGlobals "min" = some none)
    (hzall : PySem.W.nsIn K mainGlobals "all" = some none)
    (hzrepr : PySem.W.nsIn K mainGlobals "repr" = some none) :
    ∃ fd : FuncData, (∀ (s : Shared) (v : Value), BindsTo s fd ⟨[v], []⟩ [("_law_script", v)]) ∧ ∀ base : Heap, K.In base → base.Ns mainGlobals mg → LamX.TabB base mg cR PT → FnG l.prog w K mg base CX0 8 fa fd P_law (spLaw K PT) := by
  have e := hfa.symm.trans (PySem.W.mg_of X G halaw)
  cases e
  have T : Txt mg := ⟨PySem.W.mg_none_of X G hzint, PySem.W.mg_none_of X G hzlen, PySem.W.mg_none_of X G hzabs, PySem.W.mg_none_of X G hzbool, PySem.W.mg_none_of X G hztuple, PySem.W.mg_none_of X G hzisinstance, PySem.W.mg_none_of X G hzrange, PySem.W.mg_none_of X G hzmax, PySem.W.mg_none_of X G hzmin, PySem.W.mg_none_of X G hzall, PySem.W.mg_none_of X G hzrepr⟩
  have KT : KindT K C := ⟨⟨hpg, hhd, hpo, hsa⟩, hnlow, hnhigh, hnsize⟩
  have KO : KindO K C := ⟨⟨KT.cl, heO1, heW4, heW5, heO4, if_pos (beq_self_eq_true _)⟩, heO5, heO6⟩
  have gKind := PySem.W.mg_of X G haC
  have ET_BadBits : ErrT K mg CW C_BadBits "BadBits" := { ox := ⟨⟨nmBadBits, qBadBits, NBadBits, bsBadBits, _, snBadBits, subBadBits, abBadBits, colBadBits, ddBadBits, m0BadBits, m1BadBits, m2BadBits, m3BadBits, m5BadBits, he1BadBits, rfl⟩, he2BadBits, he7BadBits, he8BadBits, he6BadBits⟩, ek := ⟨by unfold PySem.W.clsIn; rw [he1BadBits]; rfl, he3BadBits, he4BadBits, he7BadBits, heaBadBits, heW4, heW5, hebBadBits, he9BadBits⟩, nv := hevBadBitsvalue, me := PySem.W.exm_ref heW1 heW2 heW3 heeBadBits, kc := if_pos (beq_self_eq_true _), kv := kit_sub (by decide +kernel) hedBadBits, g := PySem.W.mg_of X G he0BadBits }
  have n_ve := PySem.W.mg_none_of X G heW6
  have g_WidthError := PySem.W.mg_of X G heW0
  have FBadBits___init__ := fun_mk (st := s_BadBits___init__) hlBadBits___init__ hcBadBits___init__ hkBadBits___init__
  have bBadBits___init__ := FBadBits___init__.binds (ps := P_BadBits___init__) fun _ _ _ _ _ _ us hl => match us, hl with | [_, _], _ => rfl
  have Fis_integer := fun_mk (st := s_is_integer) hlis_integer hcis_integer hkis_integer
  have bis_integer := Fis_integer.binds (ps := P_is_integer) fun _ _ _ _ _ _ us hl => match us, hl with | [_], _ => rfl
  have Fis_between := fun_mk (st := s_is_between) hlis_between hcis_between hkis_between
  have bis_between := Fis_between.binds (ps := P_is_between) fun _ _ _ _ _ _ us hl => match us, hl with | [_, _, _], _ => rfl
  have FKind___init__ := fun_mk (st := s_Kind___init__) hlKind___init__ hcKind___init__ hkKind___init__
  have bKind___init__ := FKind___init__.binds (ps := P_Kind___init__) fun _ _ _ _ _ _ us hl => match us, hl with | [_, _, _], _ => rfl
  have FKind___le__ := fun_mk (st := s_Kind___le__) hlKind___le__ hcKind___le__ hkKind___le__
  have bKind___le__ := FKind___le__.binds (ps := P_Kind___le__) fun _ _ _ _ _ _ us hl => match us, hl with | [_, _], _ => rfl
  have F_power_of_ten := fun_mk (st := s__power_of_ten) hl_power_of_ten hc_power_of_ten hk_power_of_ten
  have b_power_of_ten := F_power_of_ten.binds (ps := P__power_of_ten) fun _ _ _ _ _ _ us hl => match us, hl with | [_], _ => rfl
  have FKind_signed := fun_mk (st := s_Kind_signed) hlKind_signed hcKind_signed hkKind_signed
  have bKind_signed := FKind_signed.binds (ps := P_Kind_signed) fun _ _ _ _ _ _ us hl => match us, hl with | [_, _], _ => rfl
  have FKind_unsigned := fun_mk (st := s_Kind_unsigned) hlKind_unsigned hcKind_unsigned hkKind_unsigned
  have bKind_unsigned := FKind_unsigned.binds (ps := P_Kind_unsigned) fun _ _ _ _ _ _ us hl => match us, hl with | [_, _], _ => rfl
  have FKind_digits := fun_mk (st := s_Kind_digits) hlKind_digits hcKind_digits hkKind_digits
  have bKind_digits := FKind_digits.binds (ps := P_Kind_digits) fun _ _ _ _ _ _ us hl => match us, hl with | [_, _], _ => rfl
  have F_law_pot_of := fun_mk (st := s__law_pot_of) hl_law_pot_of hc_law_pot_of hk_law_pot_of
  have b_law_pot_of := F_law_pot_of.binds (ps := P__law_pot_of) fun _ _ _ _ _ _ us hl => match us, hl with | [_, _], _ => rfl
  have F_law_take := fun_mk (st := s__law_take) hl_law_take hc_law_take hk_law_take
  have b_law_take := F_law_take.binds (ps := P__law_take) fun _ _ _ _ _ _ us hl => match us, hl with | [_, _], _ => rfl
  have F_law_of := fun_mk (st := s__law_of) hl_law_of hc_law_of hk_law_of
  have b_law_of := F_law_of.binds (ps := P__law_of) fun _ _ _ _ _ _ us hl => match us, hl with | [_, _], _ => rfl
  have F_law_doubled := fun_mk (st := s__law_doubled) hl_law_doubled hc_law_doubled hk_law_doubled
  have b_law_doubled := F_law_doubled.binds (ps := P__law_doubled) fun _ _ _ _ _ _ us hl => match us, hl with | [_], _ => rfl
  have F_law_value := fun_mk (st := s__law_value) hl_law_value hc_law_value hk_law_value
  have b_law_value := F_law_value.binds (ps := P__law_value) fun _ _ _ _ _ _ us hl => match us, hl with | [_, _], _ => rfl
  have F_law_heard := fun_mk (st := s__law_heard) hl_law_heard hc_law_heard hk_law_heard
  have b_law_heard := F_law_heard.binds (ps := P__law_heard) fun _ _ _ _ _ _ us hl => match us, hl with | [_], _ => rfl
  have F_law_due := fun_mk (st := s__law_due) hl_law_due hc_law_due hk_law_due
  have b_law_due := F_law_due.binds (ps := P__law_due) fun _ _ _ _ _ _ us hl => match us, hl with | [_, _, _], _ => rfl
  have F_law_right := fun_mk (st := s__law_right) hl_law_right hc_law_right hk_law_right
  have FC_law_right : FunC K "_law_right" "_law_right" s__law_right f_law_right _ (.ref cR) := ⟨oc_law_right, od_law_right, kV_law_right, dc_law_right, pm_law_right, an_law_right, ct_law_right, sl_law_right, rfl, hl_law_right, hc_law_right⟩
  have b_law_right := F_law_right.binds (ps := P__law_right) fun _ _ _ _ _ _ us hl => match us, hl with | [_], _ => rfl
  have Flaw := fun_mk (st := s_law) hllaw hclaw hklaw
  refine ⟨PySem.W.fnOf "law" "law" (defArgs s_law) (defBody s_law) (defScope s_law) .none kVlaw dclaw pmlaw anlaw cdlaw ctlaw, fun s v => .of_eq rfl, fun base _ _ TB => ?_⟩
  have TT : TxtB mg tb td := ⟨PySem.W.mg_of X G hgB, PySem.W.mg_of X G hgD⟩
  have CR : ClX.CRead K C (.type "type") := ⟨hrd, hga⟩
  have cis_integer : Cal l.prog w K mg base 1 "is_integer" P_is_integer spIsInt := ⟨fis_integer, _, ok_is_integer Fis_integer T, bis_integer, PySem.W.mg_of X G hais_integer, hkis_integer⟩
  have cKind : CalK l.prog w K mg base C := ⟨fKind___init__, _, ⟨hmk, haKind___init__, hiKind___init__, hkc⟩, ok_Kind FKind___init__ KT cis_integer, bKind___init__, PySem.W.mg_of X G haC⟩
  have cKind___le__ : CalN l.prog w K mg base  C 1 "__le__" P_Kind___le__ (spCmp C leB) := ⟨fKind___le__, _, ⟨haKind___le__, hiKind___le__, hkKind___le__⟩, ok_le FKind___le__ T KT KO gKind, bKind___le__⟩
  have cEBadBits : CalE l.prog w K mg base C_BadBits P_BadBits___init__ := ⟨fBadBits___init__, _, haBadBits___init__, hefBadBits, ok_BadBits FBadBits___init__ ET_BadBits, bBadBits___init__⟩
  have cis_between : Cal l.prog w K mg base 2 "is_between" P_is_between spBtw := ⟨fis_between, _, ok_btw Fis_between cis_integer, bis_between, PySem.W.mg_of X G hais_between, hkis_between⟩
  have c_power_of_ten : Cal l.prog w K mg base 1 "_power_of_ten" P__power_of_ten (spPowN 10) := ⟨f_power_of_ten, _, ok_ten F_power_of_ten T, b_power_of_ten, PySem.W.mg_of X G ha_power_of_ten, hk_power_of_ten⟩
  have cKind_signed : CalC l.prog w K mg base C "signed" P_Kind_signed (spClsN C C_BadBits 56 sLo sHi) := ⟨pKind_signed, fKind_signed, _, ⟨hs1Kind_signed, ⟨_, hs2Kind_signed⟩, hs3Kind_signed⟩, ok_signed FKind_signed TT ET_BadBits cis_between cEBadBits cKind, bKind_signed⟩
  have cKind_unsigned : CalC l.prog w K mg base C "unsigned" P_Kind_unsigned (spClsN C C_BadBits 56 uLo uHi) := ⟨pKind_unsigned, fKind_unsigned, _, ⟨hs1Kind_unsigned, ⟨_, hs2Kind_unsigned⟩, hs3Kind_unsigned⟩, ok_unsigned FKind_unsigned TT ET_BadBits cis_between cEBadBits cKind, bKind_unsigned⟩
  have cKind_digits : CalC l.prog w K mg base C "digits" P_Kind_digits (spClsN C C_BadBits 17 uLo dHi) := ⟨pKind_digits, fKind_digits, _, ⟨hs1Kind_digits, ⟨_, hs2Kind_digits⟩, hs3Kind_digits⟩, ok_digits FKind_digits TT ET_BadBits cis_between cEBadBits cKind c_power_of_ten, bKind_digits⟩
  have c_law_take : Cal l.prog w K mg base 1 "_law_take" P__law_take spTake := ⟨f_law_take, _, ok_take F_law_take T, b_law_take, PySem.W.mg_of X G ha_law_take, hk_law_take⟩
  have c_law_of : Cal l.prog w K mg base 2 "_law_of" P__law_of spOf := ⟨f_law_of, _, ok_of F_law_of T c_law_take, b_law_of, PySem.W.mg_of X G ha_law_of, hk_law_of⟩
  have c_law_pot_of : Cal l.prog w K mg base 1 "_law_pot_of" P__law_pot_of (spPotOf K) := ⟨f_law_pot_of, _, ok_pot_of F_law_pot_of T, b_law_pot_of, PySem.W.mg_of X G ha_law_pot_of, hk_law_pot_of⟩
  have c_law_doubled : Cal l.prog w K mg base 1 "_law_doubled" P__law_doubled (spPowN 2) := ⟨f_law_doubled, _, ok_dbl F_law_doubled T, b_law_doubled, PySem.W.mg_of X G ha_law_doubled, hk_law_doubled⟩
  have c_law_value : Cal l.prog w K mg base 3 "_law_value" P__law_value spVal := ⟨f_law_value, _, ok_value F_law_value T c_law_take c_law_of, b_law_value, PySem.W.mg_of X G ha_law_value, hk_law_value⟩
  have c_law_right : CalG l.prog w K mg base 7 "_law_right" P__law_right (spRightT PT 6) := ⟨f_law_right, _, ok_right FC_law_right TB T n_ve KT KO gKind CR g_WidthError ET_BadBits c_law_take c_law_value c_law_doubled cKind_signed cKind_unsigned cKind_digits cKind___le__ (PySem.W.mg_of X G ha_law_heard) hk_law_heard hl_law_heard hc_law_heard b_law_heard (PySem.W.mg_of X G ha_law_due) hk_law_due hl_law_due hc_law_due b_law_due, b_law_right, PySem.W.mg_of X G ha_law_right, hk_law_right⟩
  exact ok_law Flaw T c_law_pot_of c_law_right
end Zg

open PySem PySem.W PyProof.Rows in
set_option maxRecDepth 100000 in
set_option maxHeartbeats 0 in
theorem PySem.Challenge.cw_widerkeys_k03_kinds_by_bits_holds : PySem.Challenge.rw_widerkeys_k03_kinds_by_bits.Holds := by
  w_on; o_law; k_head; (case hw => w_witness2)
  k_fill
  refine' Zg.walkGT (l := PySem.Challenge.rw_widerkeys_k03_kinds_by_bits) (sp := Zg.spLaw) (x := "_law_script") (y := "_law_right") (k := 8) rfl (by decide) rfl ⟨rfl, by decide, by decide⟩ (fun w h Y => PySem.W.km_in_of Y) ?rec ?inK ?off ?F (fun K P H a ns hl hP hS => ⟨a, ns, rfl, hP, hS, hl, fun _ => rfl⟩)
  case F =>
    intro w mg fa h KX G hmg
    refine' Zg.all_mk KX G hmg ?haC ?hpg ?hhd ?hpo ?hsa ?hmk ?hkc ?hnlow ?hnhigh ?hnsize ?heW0 ?heW1 ?heW2 ?heW3 ?heW4 ?heW5 ?heW6 ?he0BadBits ?he1BadBits ?he2BadBits ?he3BadBits ?he4BadBits ?he6BadBits ?he7BadBits ?he8BadBits ?he9BadBits ?heaBadBits ?hebBadBits ?hedBadBits ?heeBadBits ?hevBadBitsvalue ?hrd ?hga ?hgB ?hgD ?heO1 ?heO4 ?heO5 ?heO6 ?haBadBits___init__ ?hiBadBits___init__ ?hlBadBits___init__ ?hcBadBits___init__ ?hkBadBits___init__ ?hais_integer ?hlis_integer ?hcis_integer ?hkis_integer ?hais_between ?hlis_between ?hcis_between ?hkis_between ?haKind___init__ ?hiKind___init__ ?hlKind___init__ ?hcKind___init__ ?hkKind___init__ ?haKind___le__ ?hiKind___le__ ?hlKind___le__ ?hcKind___le__ ?hkKind___le__ ?ha_power_of_ten ?hl_power_of_ten ?hc_power_of_ten ?hk_power_of_ten ?hs1Kind_signed ?hs2Kind_signed ?hs3Kind_signed ?hlKind_signed ?hcKind_signed ?hkKind_signed ?hs1Kind_unsigned ?hs2Kind_unsigned ?hs3Kind_unsigned ?hlKind_unsigned ?hcKind_unsigned ?hkKind_unsigned ?hs1Kind_digits ?hs2Kind_digits ?hs3Kind_digits ?hlKind_digits ?hcKind_digits ?hkKind_digits ?ha_law_pot_of ?hl_law_pot_of ?hc_law_pot_of ?hk_law_pot_of ?ha_law_take ?hl_law_take ?hc_law_take ?hk_law_take ?ha_law_of ?hl_law_of ?hc_law_of ?hk_law_of ?ha_law_doubled ?hl_law_doubled ?hc_law_doubled ?hk_law_doubled ?ha_law_value ?hl_law_value ?hc_law_value ?hk_law_value ?ha_law_heard ?hl_law_heard ?hc_law_heard ?hk_law_heard ?ha_law_due ?hl_law_due ?hc_law_due ?hk_law_due ?ha_law_right ?hl_law_right ?hc_law_right ?hk_law_right ?halaw ?hllaw ?hclaw ?hklaw ?hefBadBits ?heT0 ?heT1 ?hzint ?hzlen ?hzabs ?hzbool ?hztuple ?hzisinstance ?hzrange ?hzmax ?hzmin ?hzall ?hzrepr
    (case haC => k_is)
    (case hpg => k_is)
    (case hhd => k_is)
    (case hpo => k_is)
    (case hsa => k_is)
    (case hmk => k_is)
    (case hkc => k_is)
    (case hnlow => k_is)
    (case hnhigh => k_is)
    (case hnsize => k_is)
    (case heW0 => k_is)
    (case heW1 => k_is)
    (case heW2 => k_is)
    (case heW3 => k_is)
    (case heW4 => k_is)
    (case heW5 => k_is)
    (case heW6 => k_is)
    (case he0BadBits => k_is)
    (case he1BadBits => k_is)
    (case he2BadBits => k_is)
    (case he3BadBits => k_is)
    (case he4BadBits => k_is)
    (case he6BadBits => k_is)
    (case he7BadBits => k_is)
    (case he8BadBits => k_is)
    (case he9BadBits => k_is)
    (case heaBadBits => k_is)
    (case hebBadBits => k_is)
    (case hedBadBits => k_is)
    (case heeBadBits => k_is)
    (case hevBadBitsvalue => k_is)
    (case hrd => k_is)
    (case hga => k_is)
    (case hgB => k_is)
    (case hgD => k_is)
    (case heO1 => k_is)
    (case heO4 => k_is)
    (case heO5 => k_is)
    (case heO6 => k_is)
    (case haBadBits___init__ => k_is)
    (case hiBadBits___init__ => k_is)
    (case hlBadBits___init__ => k_is)
    (case hcBadBits___init__ => k_is)
    (case hkBadBits___init__ => k_is)
    (case hais_integer => k_is)
    (case hlis_integer => k_is)
    (case hcis_integer => k_is)
    (case hkis_integer => k_is)
    (case hais_between => k_is)
    (case hlis_between => k_is)
    (case hcis_between => k_is)
    (case hkis_between => k_is)
    (case haKind___init__ => k_is)
    (case hiKind___init__ => k_is)
    (case hlKind___init__ => k_is)
    (case hcKind___init__ => k_is)
    (case hkKind___init__ => k_is)
    (case haKind___le__ => k_is)
    (case hiKind___le__ => k_is)
    (case hlKind___le__ => k_is)
    (case hcKind___le__ => k_is)
    (case hkKind___le__ => k_is)
    (case ha_power_of_ten => k_is)
    (case hl_power_of_ten => k_is)
    (case hc_power_of_ten => k_is)
    (case hk_power_of_ten => k_is)
    (case hs1Kind_signed => k_is)
    (case hs2Kind_signed => k_is)
    (case hs3Kind_signed => k_is)
    (case hlKind_signed => k_is)
    (case hcKind_signed => k_is)
    (case hkKind_signed => k_is)
    (case hs1Kind_unsigned => k_is)
    (case hs2Kind_unsigned => k_is)
    (case hs3Kind_unsigned => k_is)
    (case hlKind_unsigned => k_is)
    (case hcKind_unsigned => k_is)
    (case hkKind_unsigned => k_is)
    (case hs1Kind_digits => k_is)
    (case hs2Kind_digits => k_is)
    (case hs3Kind_digits => k_is)
    (case hlKind_digits => k_is)
    (case hcKind_digits => k_is)
    (case hkKind_digits => k_is)
    (case ha_law_pot_of => k_is)
    (case hl_law_pot_of => k_is)
    (case hc_law_pot_of => k_is)
    (case hk_law_pot_of => k_is)
    (case ha_law_take => k_is)
    (case hl_law_take => k_is)
    (case hc_law_take => k_is)
    (case hk_law_take => k_is)
    (case ha_law_of => k_is)
    (case hl_law_of => k_is)
    (case hc_law_of => k_is)
    (case hk_law_of => k_is)
    (case ha_law_doubled => k_is)
    (case hl_law_doubled => k_is)
    (case hc_law_doubled => k_is)
    (case hk_law_doubled => k_is)
    (case ha_law_value => k_is)
    (case hl_law_value => k_is)
    (case hc_law_value => k_is)
    (case hk_law_value => k_is)
    (case ha_law_heard => k_is)
    (case hl_law_heard => k_is)
    (case hc_law_heard => k_is)
    (case hk_law_heard => k_is)
    (case ha_law_due => k_is)
    (case hl_law_due => k_is)
    (case hc_law_due => k_is)
    (case hk_law_due => k_is)
    (case ha_law_right => k_is)
    (case hl_law_right => k_is)
    (case hc_law_right => k_is)
    (case hk_law_right => k_is)
    (case halaw => k_is)
    (case hllaw => k_is)
    (case hclaw => k_is)
    (case hklaw => k_is)
    (case hefBadBits => k_is)
    (case heT0 => k_is)
    (case heT1 => rfl)
    (case hzint => k_is)
    (case hzlen => k_is)
    (case hzabs => k_is)
    (case hzbool => k_is)
    (case hztuple => k_is)
    (case hzisinstance => k_is)
    (case hzrange => k_is)
    (case hzmax => k_is)
    (case hzmin => k_is)
    (case hzall => k_is)
    (case hzrepr => k_is)
  case rec => rfl
  case inK =>
    intro w
    kernel_rfl
  case off =>
    intro w
    kernel_rfl
#print axioms PySem.Challenge.cw_widerkeys_k03_kinds_by_bits_holds
