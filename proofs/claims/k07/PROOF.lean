import PyProof.Rows.All
import Wide.All
import OpenK.AllK
import Wide.FinOn
import PyProof.ReprRoads
import PyProof.ReprLen
import PyProof.FitsInt
import Flt.Len
import HandS.ForMost
import HandS.Wide
import HandS.IsInst
import HandS.Style
import PySem.Challenge.RW_widerkeys_k07_windows_moved_and_parted
set_option Elab.async false
set_option linter.all false
set_option maxRecDepth 100000
set_option maxHeartbeats 4000000

namespace Zg
open PySem PySem.Spec PyProof.Rows L2

/-! ### powers -/
def CPowZ (i j : Int) : Prop := 0 ≤ j ∧ (Builtin.Int.intBits i : Int) * j ≤ 2 ^ 27
theorem op_powZ {X : Cx} : OpR X (binaryOp .Pow) (rI CPowZ fun i j => .int (i ^ j.toNat)) :=
  opI fun _ _ _ _ _ _ _ hc q => pow_int hc.1 hc.2 q

/-! ### no repr runs around -/
/-- no repr runs around -/
def Calm (A : Around) : Prop := A.guards = some []
theorem Calm.deeper {A : Around} {env : Env} (h : Calm A) : Calm (A.deeper env) := h

/-- repr(x), x data at any depth -/
def rReprD (K : PySem.W.Frag) : List V → Hp → VK → Prop := fun xs H Q =>
  ∃ (x : V) (d : PyData), xs = [x] ∧ Dp K H x d ∧ d.showable = true ∧ d.hasDict = false ∧
    d.depth ≤ 64 ∧ d.shown.length ≤ sizeLine ∧ (∀ i, x = .int i → i.natAbs.log2 < 1920) ∧ Q (.str d.shown) H
theorem call_reprD {X : Cx} (hg : Calm X.A) (hu : X.A.units + 70 < cLine) : CallR X (.builtin "repr") (rReprD X.K) := by
  intro pins s σ H xs us Q I r h
  obtain ⟨x, d, rfl, hd, hs, hn, hdep, hsz, hi, q⟩ := h
  obtain ⟨u, rfl, rx⟩ := vals1 r
  obtain ⟨as, rd⟩ := Dp.reads I d x u hd rx
  have nod : d.hasDict = true → sysModules ∉ as := fun z => by rw [hn] at z; cases z
  cases hd with
  | non =>
    cases rx
    exact PySem.P.repr_of_none ⟨.str _, H, I.tok _, ⟨_, rfl⟩, q⟩
  | bl b =>
    cases rx
    refine PySem.P.repr_of_bool ⟨.str _, H, I.tok _, ⟨_, rfl⟩, ?_⟩
    cases b <;> exact q
  | int i =>
    obtain ⟨t, rfl⟩ := rx
    exact PySem.P.repr_of_int (hi i rfl) ⟨.str _, H, I.tok _, ⟨_, rfl⟩, q⟩
  | str z =>
    obtain ⟨t, rfl⟩ := rx
    exact PySem.P.repr_of_str ⟨.str _, H, I.tok _, ⟨_, rfl⟩, q⟩ hsz
  | lst h1 h2 =>
    cases rx
    refine repr_of_reads' rd hs nod hg (by omega) (fun _ _ e => e) (fun h' u tk hk => ?_) hsz
    exact ⟨.str _, H, I.kept (t' := tk) hk, ⟨_, rfl⟩, q⟩
  | tup h1 h2 =>
    cases rx
    refine repr_of_reads' rd hs nod hg (by omega) (fun _ _ e => e) (fun h' u tk hk => ?_) hsz
    exact ⟨.str _, H, I.kept (t' := tk) hk, ⟨_, rfl⟩, q⟩

/-! ### defs that are called where no repr runs -/
section
variable {P : Program} {w : World} {K : PySem.W.Frag} {mg : Str → Option Value} {base : Heap} {CX : CXT} {k : Nat} {f : Addr} {fd : FuncData} {ps : List Str} {sp : Sp}
/-- a def keeps its promise wherever it is called with no repr around -/
structure FnG (P : Program) (w : World) (K : PySem.W.Frag) (mg : Str → Option Value) (base : Heap) (CX : CXT)
    (k : Nat) (f : Addr) (fd : FuncData) (ps : List Str) (sp : Sp) : Prop where
  many : ∀ vs H Q E, sp vs H Q E → vs.length = ps.length
  goes : ∀ (A : Around), Calm A → ∀ (fr : List Env) (s : Shared) (H : Hp) (args : Args) (us : List Value) (vs : List V) (Q : VK) (E : XK),
    Room k A → Env0 P w K mg base A fr s H → BindsTo s fd args (ps.zip us) → Vals vs us → sp vs H Q E →
      codeAny (model P w) A (.call (.ref f) args) (CR CX fr P w H s Q E) s
theorem FnG.of (F : FnOk P w K mg base CX k f fd ps sp) : FnG P w K mg base CX k f fd ps sp :=
  ⟨F.len, fun A _ fr s H args us vs Q E r e b v h => F.run A fr s H args us vs Q E r e b v h⟩
theorem FnG.up {j : Nat} (F : FnG P w K mg base CX j f fd ps sp) (h : j ≤ k) : FnG P w K mg base CX k f fd ps sp :=
  ⟨F.many, fun A c fr s H args us vs Q E r => F.goes A c fr s H args us vs Q E (r.mono h)⟩

/-- a def of the text, by its body, with no repr around -/
theorem Fun_okG {x qual : Str} {st : Stmt} {N : List Str} (F : Fun K x qual st f fd) (S : FnScope N ps (defScope st)) (len : ∀ vs H Q E, sp vs H Q E → vs.length = ps.length)
    (hbody : ∀ (cd : Value) (A : Around) (fr : List Env) (s : Shared) (H : Hp) (vs : List V) (Q : VK) (E : XK), Calm A →
      Room k (A.deeper (envOfC qual (defScope st) s.heap.objs.size f cd)) → sp vs H Q E →
        ∃ t, PSs (cxOf CX P w K mg base N qual (defScope st) f cd A fr s H E).nox (defBody st) t ∧ t { nx := fun _ H' => Q .non H', rt := Q } (start N vs) H) :
    FnG P w K mg base CX (k + 1) f fd ps sp := by
  obtain ⟨oc, od, kw, doc, pm, an, cd, ct, osl, rfl, at_f, hcd⟩ := F.ex
  constructor
  · exact len
  intro A calm fr s H args us vs Q E room e0 binds rel hsp
  have hlen := len _ _ _ _ hsp
  have stays : ∀ b o, base.get? b = some o → s.heap.get? b = some o := fun b o e => (e0.bs b o e).1
  refine codeAny_call_function room.depth (e0.mod.kin.keeps stays _ _ at_f) rfl S.co S.gen rfl (PySem.W.codeRec_of (e0.mod.kin.keeps stays) hcd) (binds _ _ _ _ ?_)
  refine wpAny_newFunctionEnv_cells S.kind (fun ⟨n, v⟩ hy => ?_) fun env he s1 inC => ?_
  · cases S.par n (List.of_mem_zip hy).1 with
    | inl z => exact .inl z
    | inr z => exact .inr ⟨z, PySem.W.cellsFrom_some _ _ _ (.inl z)⟩
  subst he
  refine ⟨(e0.mod.nolimit.keeps stays).keeps inC.toInCall.keep, codeAny_func ?_⟩
  obtain ⟨t, ht, hq⟩ := hbody cd A fr s H vs Q E calm (room.deeper _) hsp
  refine wpAny_mono (ht.nox.run [] s1 (start N vs) H _ (inv_start (CX := CX) S room.hd e0 hlen rel inC) hq) (fun fl s' z => ?_) fun _ _ z => z
  match fl, z with
  | .ret _, ⟨v, _, H', J, rv, q⟩ => exact ⟨v, H', J.os, J.bare, J.base, J.hok, rv, q⟩
  | .next, ⟨_, H', J, q⟩ => exact ⟨.non, H', J.os, J.bare, J.base, J.hok, rfl, q⟩
  | .brk, ⟨_, _, _, q⟩ => exact q.elim
  | .cont, ⟨_, _, _, q⟩ => exact q.elim
end

section
variable {X : Cx} {CX : CXT} {k : Nat} {f : Addr} {fd : FuncData} {ps : List Str} {sp : Sp} {E : XK} {x : Str} {p pos : Pos} {e : Expr} {es : List Expr} {t : TA}
/-- f(e, ..) where no repr runs -/
theorem pe_callG (c : Calm X.A) (F : FnG X.prog X.w X.K X.mg X.base CX k f fd ps sp) (hr : Room k X.A) (hg : Gl X x) (hm : X.mg x = some (.ref f)) (hk : PySem.W.keepIn X.K (.ref f) = true)
    (hb : Binds X.K fd ps []) (hx : Passes CX X E) (ha : PA X (e :: es) t) (hdb : (x == ("__debug__" : Str)) = false := by decide)
    (he : starEach (e :: es) X.env = (false, eval e X.env) :: starEach es X.env := by rfl) (hpl : (backTo pos (starEach es X.env)).any (·.1) = false := by rfl) :
    PE X (.Call (.Name x p) (e :: es) [] pos) (tCall sp [] E t) := by
  constructor
  intro pins s σ H Q I h
  refine wpAny_Call_Name_kw (ld_glob I hg hm (PySem.W.callWith_K (h₀ := X.base) I.ok.mod.kin hk (thn (ha.run pos pins s σ H _ I h) fun us s1 z => ?_) he hpl) hdb)
  obtain ⟨vs, H1, J, rel, q⟩ := z
  have q' : sp vs H1 Q E := by rw [← List.append_nil vs]; exact q
  have hl : (us ++ []).length = ps.length := by rw [List.append_nil, ← rel.length]; exact F.many _ _ _ _ q'
  have b := hb s1 us J.kIn hl
  rw [List.append_nil] at b
  refine ⟨J.kIn, wpAny_call (codeAny_mono (F.goes X.A c X.stack s1 H1 ⟨us, []⟩ us vs Q E hr J.env0 b rel q') fun r s2 z => ?_)⟩
  match r, z with
  | .error _, z => exact hx pins σ H1 s1 _ s2 J z
  | .ok (.ret _), z => exact J.after z
  | .ok .next, z => exact z.elim
  | .ok .brk, z => exact z.elim
  | .ok .cont, z => exact z.elim
end

/-! ### the law's own call -/
/-- the script alone is tracked, or nothing -/
def track (a : Addr) (o : HO) : Hp := fun b => if b = a then some o else none
theorem track_at {a : Addr} {o : HO} : track a o a = some o := if_pos rfl
theorem track_off {a b : Addr} {o : HO} (h : b ≠ a) : track a o b = none := if_neg h

theorem lawG {P : Program} {w : World} {K : PySem.W.Frag} {mg mb : Str → Option Value} {k : Nat} {fa a : Addr} {fd : FuncData} {x : Str} {sp : Sp} {s : Shared} {us : List Value} {ns : List Int}
    (kin : K.In s.heap) (gl : s.heap.Ns mainGlobals mg) (bl : s.heap.Ns builtinsNs mb) (bb : ∀ x : Str, x ≠ "__name__" → mb x = bootBuiltins x) (lim : s.heap.NoLimit) (gens : s.gens = #[])
    (ha : s.heap.get? a = some { cls := .type "list", data := .seq us.toArray }) (whole : IntsAre us ns) (line : ns.length ≤ sizeLine) (room : Room k callerA)
    (F : ∀ base : Heap, K.In base → base.Ns mainGlobals mg → FnG P w K mg base CX0 k fa fd [x] sp)
    (bind : ∀ (s : Shared) (u : Value), BindsTo s fd ⟨[u], []⟩ [(x, u)])
    (hsp : ∀ H : Hp, SqL K H a (ns.map V.int) → sp [.ref a] H (fun v _ => v = .bl true) fun _ _ _ => False) :
    codeAny (model P w) callerA (.call (.ref fa) ⟨[.ref a], []⟩) (fun r s' => r = .ok (.ret (.bool true)) ∧ OldK s.heap s'.heap ∧ s'.os = s.os ∧ AllBare s'.gens) s := by
  have rel := vals_ints whole
  have size := whole.length
  -- H: the script, or nothing; what H does not track is in the base
  have go : ∀ H : Hp, SqL K H a (ns.map V.int) → HOk P w H s.heap → (∀ b u, H b = some u → b = a ∧ K.lookup a = none ∧ ∃ o xs, u = .frz o (.lst xs)) →
      codeAny (model P w) callerA (.call (.ref fa) ⟨[.ref a], []⟩) (fun r s' => r = .ok (.ret (.bool true)) ∧ OldK s.heap s'.heap ∧ s'.os = s.os ∧ AllBare s'.gens) s := by
    intro H hS hok only
    have free : ∀ {b : Addr}, b ≠ a → H b = none := fun {b} hb => by
      cases q : H b with
      | none => rfl
      | some u => exact absurd (only b u q).1 hb
    have notDict : ∀ {b : Addr} {o : Obj} {es : Array DictEntry} {n : Nat}, s.heap.get? b = some o → o.data = .dict es n → b ≠ a := fun {b o es n} e d z => by
      subst z
      rw [ha] at e
      have e' := Option.some.inj e
      subst e'
      cases d
    have keepNs : ∀ {b : Addr} {m : Str → Option Value}, s.heap.Ns b m → (hidT s.heap H).Ns b m := fun {b m} z => by
      obtain ⟨o, es, n, e, d, r⟩ := z
      exact ⟨o, es, n, hidT_get e (free (notDict e d)), d, r⟩
    have kinB : K.In (hidT s.heap H) := fun b o e => hidT_get (kin b o e) (by
      cases q : H b with
      | none => rfl
      | some u =>
        obtain ⟨z, no, _⟩ := only b u q
        rw [z, no] at e
        cases e)
    have limB : (hidT s.heap H).NoLimit := by
      obtain ⟨m, h1, h2⟩ := lim
      exact ⟨m, keepNs h1, h2⟩
    have e0 : Env0 P w K mg (hidT s.heap H) callerA [] s H :=
      { frames := rfl, mod := ⟨kinB, keepNs gl, ⟨mb, keepNs bl, bb⟩, limB⟩, bs := fun b o e => of_hidT e, bsz := Nat.le_of_eq (hidT_size _ _), funs := trivial,
        frf := fun b hb => (List.not_mem_nil (show b ∈ ([] : List Addr) from hb)).elim, hok := hok, bare := .of_eq gens }
    refine codeAny_mono ((F _ kinB (keepNs gl)).goes callerA rfl [] s H ⟨[.ref a], []⟩ [.ref a] [.ref a] _ _ room e0 (bind s (.ref a)) (.cons rfl .nil) (hsp H hS)) fun r s' z => ?_
    match r, z with
    | .error _, z => exact False.elim z
    | .ok .next, z => exact False.elim z
    | .ok .brk, z => exact False.elim z
    | .ok .cont, z => exact False.elim z
    | .ok (.ret u), z =>
      obtain ⟨v, H', os, bare, un, hok', rv, q⟩ := z
      have q' : v = .bl true := q
      subst q'
      obtain rfl : u = Value.bool true := rv
      refine ⟨rfl, OldK.of_keep fun b o e => ?_, os, bare⟩
      cases q : H b with
      | none => exact un.keep b o e q (List.not_mem_nil) (List.not_mem_nil)
      | some u =>
        obtain ⟨_, _, ob, xs, eu⟩ := only b u q
        subst eu
        have h1 := (hok b _ q).1
        have h2 := (hok' b _ (un.frzs b ob _ q)).1
        rw [e] at h1
        rw [h2, ← Option.some.inj h1]
  cases hk : K.lookup a with
  | none =>
    refine go (track a (.frz { cls := .type "list", data := .seq us.toArray } (.lst (ns.map V.int)))) (.inl (.inr ⟨_, track_at⟩)) (fun b u z => ?_) fun b u z => ?_
    · by_cases hb : b = a
      · subst hb
        have z' := track_at.symm.trans z
        cases z'
        exact ⟨ha, by rw [List.length_map]; exact line, us, _, rel, ha⟩
      · rw [track_off hb] at z
        cases z
    · by_cases hb : b = a
      · subst hb
        have z' := track_at.symm.trans z
        cases z'
        exact ⟨rfl, hk, _, _, rfl⟩
      · rw [track_off hb] at z
        cases z
  | some o =>
    have e := kin a o hk
    rw [ha] at e
    have e' := Option.some.inj e
    subst e'
    have small : us.toArray.size ≤ sizeLine := by rw [List.size_toArray, size]; exact line
    refine go (fun _ => none) (.inr ⟨_, us.toArray, _, hk, rfl, rfl, rfl, small, by simpa using rel⟩) (fun b u z => ?_) fun b u z => ?_
    · have z' : (none : Option HO) = some u := z
      cases z'
    · have z' : (none : Option HO) = some u := z
      cases z'

/-- what k_head leaves, from the law's promise -/
theorem walkG {l : PySem.W.OpenLaw} {n k : Nat} {q : Program} {loose : List Str} {XP : (Str → Option Value) → Heap → Prop} {YP : World → Heap → Prop} {d : DefRec} {K : Params → PySem.W.Frag} {sp : PySem.W.Frag → Sp} {x : Str}
    (most : l.most = some n) (line : n ≤ sizeLine) (nodef : d.params.defaults = []) (room : Room k callerA) (hY : ∀ (w : World) (h : Heap), YP w h → (K w.params).In h)
    (F : ∀ (w : World) (mg : Str → Option Value) (fa : Addr) (h : Heap), (K w.params).In h → h.Ns mainGlobals mg → mg d.name = some (.ref fa) →
      ∃ fd : FuncData, (∀ (s : Shared) (u : Value), BindsTo s fd ⟨[u], []⟩ [(x, u)]) ∧
        ∀ base : Heap, (K w.params).In base → base.Ns mainGlobals mg → FnG l.prog w (K w.params) mg base CX0 k fa fd [x] (sp (K w.params)))
    (hsp : ∀ (K : PySem.W.Frag) (H : Hp) (a : Addr) (ns : List Int), ns.length ≤ n → SqL K H a (ns.map V.int) → sp K [.ref a] H (fun v _ => v = .bl true) fun _ _ _ => False) :
    PySem.W.WalkO q loose XP YP l.row.toRowW d [] (fun f vs => PySem.call f vs) := by
  refine Att.attach_call most nodef fun w s0 s1 mg mb fa o pm cd doc a vs ns G Y _ _ _ named obj whole few gens => ?_
  have kin := hY w _ Y
  obtain ⟨fd, bind, all⟩ := F w mg fa _ kin G.T.g named
  exact lawG kin G.T.g G.T.b G.T.builtins G.T.nolimit gens obj whole (Nat.le_trans few line) room all bind fun H hS => hsp _ H a ns few hS
section
variable {K : PySem.W.Frag} {σ : L2.St} {H : Hp} {Q : VK} {D : Ends} {v x y : V} {i j : Int} {p q : Addr} {xs : List V} {ta tb tc te : TE} {tt tu : TT} {ts tr : TS}
theorem nn {H : Hp} {a b : Addr} {o : HO} (h' : H b = none) (h : H a = some o) : a ≠ b := ne_of_none h h'
theorem nn' {H : Hp} {a b : Addr} {o : HO} (h' : H b = none) (h : H a = some o) : b ≠ a := (ne_of_none h h').symm
theorem rd_var {n : Nat} (h : σ[n]? = some (some v)) (k : Q v H) : tVar n σ H Q := ⟨v, h, k⟩
theorem rd_c (k : Q v H) : tC v σ H Q := k
theorem rd_op {r : R2} (k : ta σ H fun x H1 => tb σ H1 fun y H2 => r x y H2 Q) : tOp r ta tb σ H Q := k
theorem rd_un {r : V → Hp → VK → Prop} (k : ta σ H fun x H1 => r x H1 Q) : tUn r ta σ H Q := k
theorem rd_I0 {g : Int → Int → V} (k : Q (g i j) H) : rI0 g (.int i) (.int j) H Q := ⟨i, j, rfl, rfl, k⟩
theorem rd_I {C : Int → Int → Prop} {g : Int → Int → V} (c : C i j) (k : Q (g i j) H) : rI C g (.int i) (.int j) H Q := ⟨i, j, rfl, rfl, c, k⟩
theorem rd_U {g : Int → V} (k : Q (g i) H) : rU g (.int i) H Q := ⟨i, rfl, k⟩
theorem rd_eq (s : scal x y = true) (k : Q (.bl (decide (x = y))) H) : rEq x y H Q := ⟨s, k⟩
theorem rd_ne (s : scal x y = true) (k : Q (.bl (!decide (x = y))) H) : rNe x y H Q := ⟨s, k⟩
theorem rd_ixL (h : H p = some (.lst xs)) (e : atI xs i = some v) (k : Q v H) : rIxL K (.ref p) (.int i) H Q := ⟨p, xs, i, v, rfl, rfl, SqL.of h, e, k⟩
theorem rd_ixLs (h : SqL K H p xs) (e : atI xs i = some v) (k : Q v H) : rIxL K (.ref p) (.int i) H Q := ⟨p, xs, i, v, rfl, rfl, h, e, k⟩
theorem rd_ixT (h : H p = some (.tup xs)) (e : atI xs i = some v) (k : Q v H) : rIxT K (.ref p) (.int i) H Q := ⟨p, xs, i, v, rfl, rfl, SqT.of h, e, k⟩
theorem rd_setL {z : V} {n : Nat} {R : Hp → Prop} (h : H p = some (.lst xs)) (e : ixN xs.length i = some n) (k : R (upd H p (.lst (xs.set n z)))) : rSetL (.ref p) (.int i) z H R := ⟨p, xs, i, n, rfl, rfl, h, e, k⟩
theorem rd_sub {to ti : TE} {t : TSet} {R : L2.St → Hp → Prop} (k : to σ H fun o H1 => ti σ H1 fun i H2 => t o i v H2 fun H3 => R σ H3) : gSub to ti t v σ H R := k
theorem rd_test {R : Bool → Hp → Prop} (k : ta σ H fun x H' => ∃ b, x = .bl b ∧ R b H') : tTest ta σ H R := k
theorem rd_tB {R : Bool → Hp → Prop} (k : ta σ H fun x H' => ∃ b, x = .bl b ∧ R b H') : tB ta σ H R := k
theorem rd_bl {b : Bool} {R : Bool → Prop} (k : R b) : ∃ c, V.bl b = .bl c ∧ R c := ⟨b, rfl, k⟩
theorem rd_chain {r r' : R2} (k : ta σ H fun x H1 => tb σ H1 fun y H2 => r x y H2 fun z H3 => ∃ b, z = .bl b ∧ if b = true then tc σ H3 fun u H4 => r' y u H4 Q else Q (.bl false) H3) : tChain r r' ta tb tc σ H Q := k
theorem rd_and {R : Bool → Hp → Prop} (k : tt σ H fun c H1 => if c = true then tu σ H1 R else R false H1) : tAnd tt tu σ H R := k
theorem rd_or {R : Bool → Hp → Prop} (k : tt σ H fun c H1 => if c = true then R true H1 else tu σ H1 R) : tOr tt tu σ H R := k
theorem rd_not {R : Bool → Hp → Prop} (k : tt σ H fun c H1 => R (!c) H1) : tNot tt σ H R := k
theorem rd_andV (k : ta σ H fun x H1 => ∃ c, x = .bl c ∧ if c = true then tb σ H1 Q else Q (.bl false) H1) : tAndV ta tb σ H Q := k
theorem rd_orV (k : ta σ H fun x H1 => ∃ c, x = .bl c ∧ if c = true then Q (.bl true) H1 else tb σ H1 Q) : tOrV ta tb σ H Q := k
theorem rd_notV (k : ta σ H fun x H1 => ∃ c, x = .bl c ∧ Q (.bl (!c)) H1) : tNotV ta σ H Q := k
theorem rd_if (k : tt σ H fun c H1 => if c = true then ta σ H1 Q else tb σ H1 Q) : tIf tt ta tb σ H Q := k
theorem rd_ifS (k : tt σ H fun b H1 => if b = true then ts D σ H1 else tr D σ H1) : tIfS tt ts tr D σ H := k
theorem rd_seq (k : ts { D with nx := tr D } σ H) : tSeq ts tr D σ H := k
theorem rd_next (k : D.nx σ H) : tNext D σ H := k
theorem rd_asg {g : TG} (k : te σ H fun x H1 => g x σ H1 D.nx) : tAsg te g D σ H := k
theorem rd_name {n : Nat} {R : L2.St → Hp → Prop} (k : R (σ.set n (some v)) H) : gName n v σ H R := k
theorem rd_gnil {R : L2.St → Hp → Prop} (k : R σ H) : gNil [] σ H R := ⟨rfl, k⟩
theorem rd_gcons {t : TG} {u : TGs} {R : L2.St → Hp → Prop} (k : t v σ H fun σ' H' => u xs σ' H' R) : gCons t u (v :: xs) σ H R := ⟨v, xs, rfl, k⟩
theorem rd_gtup {n : Nat} {t : TGs} {R : L2.St → Hp → Prop} (h : H p = some (.tup xs)) (e : xs.length = n) (k : t xs σ H R) : gTup K n t (.ref p) σ H R := ⟨p, xs, rfl, SqT.of h, e, k⟩
theorem rd_par {a b : Nat} {tA : TA} (k : tA σ H fun vs H1 => ∃ v w, vs = [v, w] ∧ D.nx ((σ.set a (some v)).set b (some w)) H1) : tPar a b tA D σ H := k
theorem rd_par2 {R : V → V → Prop} (k : R x y) : ∃ v w, [x, y] = [v, w] ∧ R v w := ⟨x, y, rfl, k⟩
theorem rd_drop (k : te σ H fun _ H1 => D.nx σ H1) : tDrop te D σ H := k
theorem rd_ret (k : te σ H D.rt) : tRet te D σ H := k
theorem rd_retN (k : D.rt .non H) : tRetN D σ H := k
theorem rd_nil {R : List V → Hp → Prop} (k : R [] H) : tNil σ H R := k
theorem rd_cons {tl : TA} {R : List V → Hp → Prop} (k : ta σ H fun x H1 => tl σ H1 fun xs H2 => R (x :: xs) H2) : tCons ta tl σ H R := k
theorem rd_tup {tA : TA} (k : tA σ H fun xs H1 => xs.length ≤ sizeLine ∧ ∀ p, H1 p = none → Q (.ref p) (upd H1 p (.tup xs))) : tTup tA σ H Q := k
theorem rd_lst {tA : TA} (k : tA σ H fun xs H1 => xs.length ≤ sizeLine ∧ ∀ p, H1 p = none → Q (.ref p) (upd H1 p (.lst xs))) : tLst tA σ H Q := k
theorem few {n : Nat} (h : n ≤ 1000) : n ≤ sizeLine := Nat.le_of_lt (small1000 h)
theorem rd_new {R : Addr → Prop} (h : xs.length ≤ 1000) (k : ∀ p, H p = none → R p) : xs.length ≤ sizeLine ∧ ∀ p, H p = none → R p := ⟨few h, k⟩
theorem rd_cb {r : List V → Hp → VK → Prop} {tA : TA} (k : tA σ H fun vs H1 => r vs H1 Q) : tCB r tA σ H Q := k
theorem rd_call {sp : Sp} {E : XK} {tA : TA} (k : tA σ H fun vs H1 => sp (vs ++ []) H1 Q E) : tCall sp [] E tA σ H Q := k
theorem rd_make {C : Addr} {sp : Sp} {E : XK} {tA : TA} (k : tA σ H fun vs H1 => ∀ x dx, H1 x = none → H1 dx = none → dx ≠ x →
  sp (.ref x :: (vs ++ [])) (upd (upd H1 dx (.own x)) x (.ins C dx [])) (fun v H2 => v = .non ∧ Q (.ref x) H2) E) : tMake C sp [] E tA σ H Q := k
theorem rd_fld {f : Str} (k : ta σ H fun x H1 => ∃ a C dx fs v, x = .ref a ∧ H1 a = some (.ins C dx fs) ∧ Cls K C ∧ NoAttr K C f ∧ fs.lookup f = some v ∧ Q v H1) : tFld K ta f σ H Q := k
theorem rd_int {R : Int → Prop} {S : Prop} (k : R i) : (∃ j, [V.int i] = [V.int j] ∧ R j) ∨ S := .inl ⟨i, rfl, k⟩
theorem rd_intB {b : Bool} {R : Bool → Prop} {S : Prop} (k : R b) : S ∨ (∃ c, [V.bl b] = [V.bl c] ∧ R c) := .inr ⟨b, rfl, k⟩
theorem rd_one {R : Int → Prop} (k : R i) : ∃ j, [V.int i] = [V.int j] ∧ R j := ⟨i, rfl, k⟩
theorem rd_two {R : Int → Int → Prop} (k : R i j) : ∃ a b, [V.int i, V.int j] = [V.int a, V.int b] ∧ R a b := ⟨i, j, rfl, k⟩
theorem rd_lenL {R : List V → Prop} (h : H p = some (.lst xs)) (k : R xs) : ∃ a ys, [V.ref p] = [V.ref a] ∧ (SqL K H a ys ∨ SqT K H a ys) ∧ R ys := ⟨p, xs, rfl, .inl (SqL.of h), k⟩
theorem rd_lenLs {R : List V → Prop} (h : SqL K H p xs) (k : R xs) : ∃ a ys, [V.ref p] = [V.ref a] ∧ (SqL K H a ys ∨ SqT K H a ys) ∧ R ys := ⟨p, xs, rfl, .inl h, k⟩
theorem rd_lenT {R : List V → Prop} (h : H p = some (.tup xs)) (k : R xs) : ∃ a ys, [V.ref p] = [V.ref a] ∧ (SqL K H a ys ∨ SqT K H a ys) ∧ R ys := ⟨p, xs, rfl, .inr (SqT.of h), k⟩
theorem rd_fldI {C dx a : Addr} {fs : List (Str × V)} {f : Str} (h : H a = some (.ins C dx fs)) (c : Cls K C) (n : NoAttr K C f) (l : fs.lookup f = some v) (k : Q v H) :
    ∃ a' C dx fs v, V.ref a = .ref a' ∧ H a' = some (.ins C dx fs) ∧ Cls K C ∧ NoAttr K C f ∧ fs.lookup f = some v ∧ Q v H := ⟨a, C, dx, fs, v, rfl, h, c, n, l, k⟩
theorem rd_ite {c : Prop} [Decidable c] {A B : Prop} (h1 : c → A) (h2 : ¬ c → B) : if decide c = true then A else B := by
  by_cases h : c
  · rw [if_pos (decide_eq_true h)]
    exact h1 h
  · rw [if_neg (by rw [decide_eq_false h]; exact Bool.false_ne_true)]
    exact h2 h
theorem rd_iteN {c : Prop} [Decidable c] {A B : Prop} (h1 : ¬ c → A) (h2 : c → B) : if (!decide c) = true then A else B := by
  by_cases h : c
  · rw [decide_eq_true h]
    exact iteF (h2 h)
  · rw [decide_eq_false h]
    exact iteT (h1 h)
theorem rd_iteB {b : Bool} {A B : Prop} (h1 : b = true → A) (h2 : b = false → B) : if b = true then A else B := by
  cases b with
  | true => exact iteT (h1 rfl)
  | false => exact iteF (h2 rfl)
end
section
variable {K : PySem.W.Frag} {H : Hp} {Q : VK} {a b c : V} {p : Addr} {xs : List V}
theorem rd_ixL0 (h : H p = some (.lst (a :: xs))) (k : Q a H) : rIxL K (.ref p) (.int 0) H Q := rd_ixL h (atI_nat (j := 0) rfl) k
theorem rd_ixL1 (h : H p = some (.lst (a :: b :: xs))) (k : Q b H) : rIxL K (.ref p) (.int 1) H Q := rd_ixL h (atI_nat (j := 1) rfl) k
theorem rd_ixL2 (h : H p = some (.lst (a :: b :: c :: xs))) (k : Q c H) : rIxL K (.ref p) (.int 2) H Q := rd_ixL h (atI_nat (j := 2) rfl) k
theorem rd_ixT0 (h : H p = some (.tup (a :: xs))) (k : Q a H) : rIxT K (.ref p) (.int 0) H Q := rd_ixT h (atI_nat (j := 0) rfl) k
theorem rd_ixT1 (h : H p = some (.tup (a :: b :: xs))) (k : Q b H) : rIxT K (.ref p) (.int 1) H Q := rd_ixT h (atI_nat (j := 1) rfl) k
theorem rd_setL0 {z : V} {R : Hp → Prop} (h : H p = some (.lst (a :: xs))) (k : R (upd H p (.lst (z :: xs)))) : rSetL (.ref p) (.int 0) z H R := rd_setL (n := 0) h (by simp [ixN]) k
theorem rd_setL2 {z : V} {R : Hp → Prop} (h : H p = some (.lst (a :: b :: c :: xs))) (k : R (upd H p (.lst (a :: b :: z :: xs)))) : rSetL (.ref p) (.int 2) z H R := rd_setL (n := 2) h (by simp [ixN]; omega) k
end
section
variable {K : PySem.W.Frag} {H : Hp} {Q : VK} {i j : Int} {p : Addr} {xs : List V}
/-- an item at an open place within -/
theorem rd_ixLr (h : H p = some (.lst xs)) (h0 : 0 ≤ i) (h1 : i < xs.length) (k : ∀ v, v ∈ xs → Q v H) : rIxL K (.ref p) (.int i) H Q := by
  have hlt : i.toNat < xs.length := by omega
  have e : xs[i.toNat]? = some xs[i.toNat] := List.getElem?_eq_getElem hlt
  exact rd_ixL h (at_of (Int.toNat_of_nonneg h0).symm e) (k _ (List.getElem_mem hlt))
theorem rd_ixLsr (h : SqL K H p xs) (h0 : 0 ≤ i) (h1 : i < xs.length) (k : ∀ v, v ∈ xs → Q v H) : rIxL K (.ref p) (.int i) H Q := by
  have hlt : i.toNat < xs.length := by omega
  have e : xs[i.toNat]? = some xs[i.toNat] := List.getElem?_eq_getElem hlt
  exact rd_ixLs h (at_of (Int.toNat_of_nonneg h0).symm e) (k _ (List.getElem_mem hlt))
/-- % hands on a letter -/
theorem rd_mod (c : 0 < j) (k : ∀ r, r = i % j → 0 ≤ r → r < j → Q (.int r) H) : rI (fun _ j => 0 < j) (fun i j => .int (i % j)) (.int i) (.int j) H Q :=
  rd_I c (k _ rfl (Int.emod_nonneg _ (by omega)) (Int.emod_lt_of_pos _ c))
theorem cmul_l (h1 : -(2 ^ 64) < i) (h2 : i < 2 ^ 64) : CMul i j := .inl ⟨h1, h2⟩
theorem cmul_r (h1 : -(2 ^ 64) < j) (h2 : j < 2 ^ 64) : CMul i j := .inr ⟨h1, h2⟩
theorem cpow (h0 : 0 ≤ j) (h1 : j ≤ 1000000) (h2 : -(2 ^ 64) < i) (h3 : i < 2 ^ 64) : CPow i j := ⟨h0, h1, by omega⟩
theorem cdivw {n : Int} (h0 : 0 < j) (h1 : j < 2 ^ 200) : CDivW n j := wide_div h0 (b := 200) (by omega) (by decide) (by decide)
end
section
variable {K : PySem.W.Frag} {σ : L2.St} {H : Hp} {Q : VK} {D : Ends} {v x y : V} {i j : Int} {a C dx : Addr} {fs : List (Str × V)} {ta te : TE} {f : Str}
theorem rd_sfld (k : te σ H fun y H1 => ta σ H1 fun x H2 => ∃ a C dx fs, x = .ref a ∧ H2 a = some (.ins C dx fs) ∧ Cls K C ∧ NoAttr K C f ∧ fs.length < 1000 ∧ D.nx σ (upd H2 a (.ins C dx (putF f y fs)))) : sFld K ta te f D σ H := k
theorem rd_sfldI {R : Hp → Prop} (h : H a = some (.ins C dx fs)) (c : Cls K C) (n : NoAttr K C f) (l : fs.length < 1000) (k : R (upd H a (.ins C dx (putF f y fs)))) :
    ∃ a' C' dx' fs', V.ref a = .ref a' ∧ H a' = some (.ins C' dx' fs') ∧ Cls K C' ∧ NoAttr K C' f ∧ fs'.length < 1000 ∧ R (upd H a' (.ins C' dx' (putF f y fs'))) := ⟨a, C, dx, fs, rfl, h, c, n, l, k⟩
end
theorem rd_rf {R : Prop} (k : R) : V.non = V.non ∧ R := ⟨rfl, k⟩
theorem rd_bm {K : PySem.W.Frag} {T : String} {r : V → List V → Hp → VK → Prop} {to : TE} {t : TA} {σ : L2.St} {H : Hp} {Q : VK} (k : to σ H fun x H1 => tyV K T x H1 ∧ t σ H1 fun xs H2 => r x xs H2 Q) : tBM K T r to t σ H Q := k
local macro_rules | `(tactic| fail "z hp") => `(tactic| (with_reducible first
  | assumption
  | exact L2.upd_same
  | (refine' (L2.upd_ne ?zn).trans ?zm; (case zn => fail "z ne"); (case zm => fail "z hp"))))
local macro_rules | `(tactic| fail "z ne") => `(tactic| (with_reducible first
  | assumption
  | exact Ne.symm (by assumption)
  | exact Zg.nn (by assumption) (by assumption)
  | exact Zg.nn' (by assumption) (by assumption)
  | (refine' Zg.nn (by assumption) ?zm; (case zm => fail "z hp"))
  | (refine' Zg.nn' (by assumption) ?zm; (case zm => fail "z hp"))))
local macro_rules | `(tactic| fail "z 1") => `(tactic| (with_reducible first
  | refine Zg.rd_var rfl ?_
  | refine Zg.rd_c ?_
  | refine Zg.rd_seq ?_
  | refine Zg.rd_asg ?_
  | refine Zg.rd_name ?_
  | refine Zg.rd_op ?_
  | refine Zg.rd_I0 ?_
  | refine Zg.rd_ret ?_
  | refine Zg.rd_ifS ?_
  | refine Zg.rd_test ?_
  | refine Zg.rd_tB ?_
  | refine Zg.rd_bl ?_
  | refine Zg.rd_un ?_
  | refine Zg.rd_U ?_
  | refine Zg.rd_cons ?_
  | refine Zg.rd_nil ?_
  | refine Zg.rd_sub ?_
  | refine Zg.rd_lst ?_
  | refine Zg.rd_tup ?_
  | refine Zg.rd_cb ?_
  | refine Zg.rd_call ?_
  | refine Zg.rd_make ?_
  | refine Zg.rd_fld ?_
  | refine Zg.rd_chain ?_
  | refine Zg.rd_and ?_
  | refine Zg.rd_or ?_
  | refine Zg.rd_not ?_
  | refine Zg.rd_andV ?_
  | refine Zg.rd_orV ?_
  | refine Zg.rd_notV ?_
  | refine Zg.rd_if ?_
  | refine Zg.rd_next ?_
  | refine Zg.rd_par ?_
  | refine Zg.rd_par2 ?_
  | refine Zg.rd_gnil ?_
  | refine Zg.rd_gcons ?_
  | refine Zg.rd_drop ?_
  | refine Zg.rd_retN ?_
  | refine Zg.rd_eq rfl ?_
  | refine Zg.rd_ne rfl ?_
  | refine Zg.rd_int ?_
  | refine Zg.rd_intB ?_
  | refine Zg.rd_one ?_
  | refine Zg.rd_two ?_
  | refine Zg.rd_sfld ?_
  | refine Zg.rd_bm ?_))
local macro_rules | `(tactic| fail "z side") => `(tactic| (with_reducible first
  | assumption
  | exact Zg.cmul_l (by omega) (by omega)
  | exact Zg.cmul_r (by omega) (by omega)
  | exact Zg.cpow (by omega) (by omega) (by omega) (by omega)
  | exact Zg.cdivw (by omega) (by omega)
  | (show (0 : Int) < _; omega)))
local macro_rules | `(tactic| fail "z 2") => `(tactic| (with_reducible first
  | (refine' Zg.rd_ixL0 ?zh ?_; (case zh => fail "z hp"))
  | (refine' Zg.rd_ixL1 ?zh ?_; (case zh => fail "z hp"))
  | (refine' Zg.rd_ixL2 ?zh ?_; (case zh => fail "z hp"))
  | (refine' Zg.rd_ixT0 ?zh ?_; (case zh => fail "z hp"))
  | (refine' Zg.rd_ixT1 ?zh ?_; (case zh => fail "z hp"))
  | (refine' Zg.rd_I ?zh ?_; (case zh => fail "z side"))
  | (refine' Zg.rd_setL0 ?zh ?_; (case zh => fail "z hp"))
  | (refine' Zg.rd_setL2 ?zh ?_; (case zh => fail "z hp"))
  | (refine' Zg.rd_lenL ?zh ?_; (case zh => fail "z hp"))
  | (refine' Zg.rd_lenT ?zh ?_; (case zh => fail "z hp"))
  | (refine' Zg.rd_new ?zh ?_; (case zh => exact (Nat.le_of_ble_eq_true rfl)))))
local macro_rules | `(tactic| fail "z go") => `(tactic| repeat (first | fail "z 1" | fail "z 2"))
local macro_rules | `(tactic| fail "z run") => `(tactic| repeat (first | fail "z 1" | fail "z 2" | (with_reducible first | refine L2.iteT ?_ | refine L2.iteF ?_ | refine Zg.rd_rf ?_)))
def top (i : Nat) : Stmt := PySem.Challenge.pw_widerkeys_k07_windows_moved_and_parted.main.body.getD i (.Pass ⟨0, 0, 0, 0⟩)
abbrev s__law_take : Stmt := (top 30)
abbrev N__law_take : List Str := ["_law_pot", "_law_upto", "_law_digit", "_law_prime", "_law_stirred"]
abbrev P__law_take : List Str := ["_law_pot", "_law_upto"]
theorem sc__law_take : FnScope N__law_take P__law_take (defScope s__law_take) := ⟨rfl, rfl, rfl, by decide +kernel, rfl, by decide +kernel, by decide +kernel⟩
abbrev s__law_of : Stmt := (top 31)
abbrev N__law_of : List Str := ["_law_pot", "_law_some"]
abbrev P__law_of : List Str := ["_law_pot", "_law_some"]
theorem sc__law_of : FnScope N__law_of P__law_of (defScope s__law_of) := ⟨rfl, rfl, rfl, by decide +kernel, rfl, by decide +kernel, by decide +kernel⟩
abbrev s__law_pot_of : Stmt := (top 29)
abbrev N__law_pot_of : List Str := ["_law_script", "_law_k", "_law_cell", "_law_own"]
abbrev P__law_pot_of : List Str := ["_law_script", "_law_k"]
theorem sc__law_pot_of : FnScope N__law_pot_of P__law_pot_of (defScope s__law_pot_of) := ⟨rfl, rfl, rfl, by decide +kernel, rfl, by decide +kernel, by decide +kernel⟩

/-- a pot from which n more numbers may be drawn -/
def Pot (H : Hp) (p : Addr) (n : Nat) : Prop := ∃ o s c : Int, H p = some (.lst [.int o, .int s, .int c]) ∧ 0 ≤ o ∧ 0 ≤ s ∧ s < 2305843009213693921 ∧ 0 ≤ c ∧ c + n ≤ 100000
/-- all that was tracked stands, but p -/
def Kp (p : Addr) (H H' : Hp) : Prop := ∀ b o, b ≠ p → H b = some o → H' b = some o
theorem Kp.refl {p : Addr} {H : Hp} : Kp p H H := fun _ _ _ h => h
theorem Kp.trans {p : Addr} {H H1 H2 : Hp} (a : Kp p H H1) (b : Kp p H1 H2) : Kp p H H2 := fun c o n h => b c o n (a c o n h)
theorem Kp.put {p : Addr} {H H1 : Hp} {o : HO} (a : Kp p H H1) : Kp p H (upd H1 p o) := fun c u n h => by
  rw [upd_ne n]
  exact a c u n h
theorem Kp.new {p q : Addr} {H H1 : Hp} {o : HO} (a : Kp p H H1) (hq : H1 q = none) : Kp p H (upd H1 q o) := fun c u n h => by
  have z := a c u n h
  rw [upd_ne (ne_of_none z hq)]
  exact z
theorem same_new {H : Hp} {p : Addr} {o : HO} (h : H p = none) : Same H (upd H p o) := fun b u e => (upd_ne (ne_of_none e h)).trans e
theorem if01 (b : Bool) : (0 : Int) ≤ if b = true then 1 else 0 := by cases b <;> decide
theorem Pot.le {H : Hp} {p : Addr} {m n : Nat} (h : Pot H p n) (l : m ≤ n) : Pot H p m := by
  obtain ⟨o, s, c, a, b, d, e, f, g⟩ := h
  exact ⟨o, s, c, a, b, d, e, f, by omega⟩
theorem Pot.new {H : Hp} {p q : Addr} {n : Nat} {o : HO} (h : Pot H p n) (hq : H q = none) : Pot (upd H q o) p n := by
  obtain ⟨x, s, c, a, b⟩ := h
  exact ⟨x, s, c, (upd_ne (ne_of_none a hq)).trans a, b⟩
theorem Pot.ne {H : Hp} {p q : Addr} {n : Nat} (h : Pot H p n) (hq : H q = none) : p ≠ q := by
  obtain ⟨x, s, c, a, b⟩ := h
  exact ne_of_none a hq
def spTake : Sp := fun vs H Q _ => ∃ (p : Addr) (n : Nat) (u : Int), vs = [.ref p, .int u] ∧ Pot H p (n + 1) ∧ 0 < u ∧ u < 2 ^ 200 ∧
  ∀ (r : Int) (H' : Hp), 0 ≤ r → r < u → Kp p H H' → Pot H' p n → Q (.int r) H'
def spOf : Sp := fun vs H Q _ => ∃ (p a : Addr) (n : Nat) (xs : List V), vs = [.ref p, .ref a] ∧ Pot H p (n + 1) ∧ a ≠ p ∧ H a = some (.lst xs) ∧ 0 < xs.length ∧ xs.length ≤ 1000 ∧
  ∀ (v : V) (H' : Hp), v ∈ xs → Kp p H H' → Pot H' p n → Q v H'
def spPotOf (K : PySem.W.Frag) : Sp := fun vs H Q _ => ∃ (a : Addr) (ns : List Int) (k : Int), vs = [.ref a, .int k] ∧ SqL K H a (ns.map V.int) ∧ ns.length ≤ 1000 ∧ 0 ≤ k ∧ k ≤ 2 ∧
  ∀ (p : Addr) (H' : Hp), H p = none → Same H H' → Pot H' p 100000 → Q (.ref p) H'
/-- a def that stands in the module under its name, with its promise -/
def Cal (P : Program) (w : World) (K : PySem.W.Frag) (mg : Str → Option Value) (base : Heap) (k : Nat) (x : Str) (ps : List Str) (sp : Sp) : Prop :=
  ∃ (f : Addr) (fd : FuncData), FnOk P w K mg base CX0 k f fd ps sp ∧ Binds K fd ps [] ∧ mg x = some (.ref f) ∧ PySem.W.keepIn K (.ref f) = true
def CalG (P : Program) (w : World) (K : PySem.W.Frag) (mg : Str → Option Value) (base : Heap) (k : Nat) (x : Str) (ps : List Str) (sp : Sp) : Prop :=
  ∃ (f : Addr) (fd : FuncData), FnG P w K mg base CX0 k f fd ps sp ∧ Binds K fd ps [] ∧ mg x = some (.ref f) ∧ PySem.W.keepIn K (.ref f) = true
theorem hu70 {k : Nat} {A : Around} (r : Room k A) : A.units + 70 < cLine := by
  have := r.un
  omega
structure Txt (mg : Str → Option Value) : Prop where
  n_int : mg "int" = none
  n_len : mg "len" = none
  n_abs : mg "abs" = none
  n_bool : mg "bool" = none
  n_tuple : mg "tuple" = none
  n_isinstance : mg "isinstance" = none
  n_range : mg "range" = none
  n_max : mg "max" = none
  n_min : mg "min" = none
  n_all : mg "all" = none
  n_repr : mg "repr" = none
section
variable {P : Program} {w : World} {K : PySem.W.Frag} {mg : Str → Option Value} {base : Heap}
theorem ok_take {f : Addr} {fd : FuncData} (F : Fun K "_law_take" "_law_take" s__law_take f fd) (T : Txt mg) : FnOk P w K mg base CX0 1 f fd P__law_take spTake := by
  refine F.ok sc__law_take (fun vs H Q E h => ?_) (fun cdv A outer s H vs Q E hr h => ?_)
  · obtain ⟨p, n, u, rfl, _⟩ := h
    rfl
  · obtain ⟨p, n, u, rfl, ⟨o, z, c, hp, o0, z0, z1, c0, c1⟩, u0, u1, k⟩ := h
    refine ⟨_, (pss_cons (ps_if (pt_cmpR op_gt (pe_ix ix_list (pv 0) pe_int (fun _ _ => rfl)) pe_int (nomark _)) (pss_cons (ps_set (i := 2) sc__law_take.nd rfl (Or.inl rfl) (pe_op op_mod (pe_callTy call_int1 (by rfl) T.n_int (by decide +kernel) (pa_cons (pe_ix ix_list (pv 0) pe_int (fun _ _ => rfl)) pa_nil)) (pv 1)))
      (pss_cons (ps_asg (pe_op op_fdivW (pe_ix ix_list (pv 0) pe_int (fun _ _ => rfl)) (pv 1)) (pg_sub (pv 0) pe_int set_list))
      (pss_one (ps_ret (pv 2))))) pss_nil)
      (pss_cons (ps_asg (pe_op op_add (pe_ix ix_list (pv 0) pe_int (fun _ _ => rfl)) pe_int) (pg_sub (pv 0) pe_int set_list))
      (pss_cons (ps_set (i := 3) sc__law_take.nd rfl (Or.inl rfl) (pe_ix ix_list (pe_lst (pa_cons pe_int (pa_cons pe_int (pa_cons pe_int (pa_cons pe_int (pa_cons pe_int pa_nil)))))) (pe_op op_mod (pe_callTy call_int1 (by rfl) T.n_int (by decide +kernel) (pa_cons (pe_ix ix_list (pv 0) pe_int (fun _ _ => rfl)) pa_nil)) pe_int) (fun _ _ => rfl)))
      (pss_cons (ps_set (i := 4) sc__law_take.nd rfl (Or.inl rfl) (pe_op op_mod (pe_callTy call_int1 (by rfl) T.n_int (by decide +kernel) (pa_cons (pe_op op_pow (pe_op op_add (pe_op op_add (pe_ix ix_list (pv 0) pe_int (fun _ _ => rfl)) (pe_op op_mul (pe_op op_mul pe_int (pe_ix ix_list (pv 0) pe_int (fun _ _ => rfl))) (pe_ix ix_list (pv 0) pe_int (fun _ _ => rfl)))) pe_int) pe_int) pa_nil)) (pv 3)))
      (pss_one (ps_ret (pe_op op_mod (pe_callTy call_int1 (by rfl) T.n_int (by decide +kernel) (pa_cons (pe_op op_fdivW (pe_op op_mul (pv 4) (pe_op op_add (pe_op op_mod (pe_callTy call_int1 (by rfl) T.n_int (by decide +kernel) (pa_cons (pv 4) pa_nil)) pe_int) (pe_op op_mul pe_int (pe_ix ix_list (pv 0) pe_int (fun _ _ => rfl))))) pe_int) pa_nil)) (pv 1)))))))), ?_⟩
    fail "z go"
    refine rd_ite (fun h => ?_) (fun h => ?_)
    · fail "z go"
      exact k _ _ (Int.emod_nonneg _ (by omega)) (Int.emod_lt_of_pos _ u0) Kp.refl.put ⟨_, _, _, upd_same, Int.ediv_nonneg o0 (by omega), z0, z1, c0, by omega⟩
    · fail "z go"
      intro q hq
      have npq : p ≠ q := ne_of_none upd_same hq
      fail "z go"
      refine rd_ixLr upd_same (Int.emod_nonneg _ (by decide)) (Int.emod_lt_of_pos _ (by decide)) fun m hm => ?_
      obtain ⟨m, rfl, m0, m1⟩ : ∃ i : Int, m = .int i ∧ 2147483563 ≤ i ∧ i ≤ 2147483647 := by
        simp only [List.mem_cons, List.not_mem_nil, or_false] at hm
        rcases hm with rfl | rfl | rfl | rfl | rfl <;> exact ⟨_, rfl, by decide, by decide⟩
      have sq0 : 0 ≤ (c + 1) * (c + 1) := Int.mul_nonneg (by omega) (by omega)
      have sq1 : (c + 1) * (c + 1) ≤ 100000 * 100000 := Int.mul_le_mul (by omega) (by omega) (by omega) (by decide)
      have sq2 : 90001 * (c + 1) * (c + 1) = 90001 * ((c + 1) * (c + 1)) := Int.mul_assoc _ _ _
      fail "z go"
      refine k _ _ (Int.emod_nonneg _ (by omega)) (Int.emod_lt_of_pos _ u0) (Kp.refl.put.new hq) ⟨_, _, _, (upd_ne npq).trans upd_same, o0, z0, z1, by omega, by omega⟩
theorem ok_of {f : Addr} {fd : FuncData} (F : Fun K "_law_of" "_law_of" s__law_of f fd) (T : Txt mg) (c_take : Cal P w K mg base 1 "_law_take" P__law_take spTake) :
    FnOk P w K mg base CX0 2 f fd P__law_of spOf := by
  obtain ⟨f_take, fd_take, G__law_take, b__law_take, g__law_take, k__law_take⟩ := c_take
  refine F.ok sc__law_of (fun vs H Q E h => ?_) (fun cdv A outer s H vs Q E hr h => ?_)
  · obtain ⟨p, a, n, xs, rfl, _⟩ := h
    rfl
  · obtain ⟨p, a, n, xs, rfl, hp, nap, ha, l0, l1, k⟩ := h
    refine ⟨_, (pss_one (ps_ret (pe_ix ix_list (pv 1) (pe_call G__law_take (hr.mono (by decide)) rfl g__law_take k__law_take b__law_take .nil pass0 (pa_cons (pv 0) (pa_cons (pe_callB call_len_seq (by rfl) T.n_len (by decide +kernel) (pa_cons (pv 1) pa_nil)) pa_nil))) (fun _ _ => rfl)))), ?_⟩
    fail "z go"
    refine ⟨p, n, _, rfl, hp, by omega, by omega, fun r H' r0 r1 kp pt => ?_⟩
    exact rd_ixLr (kp a _ nap ha) r0 r1 fun v hv => k v H' hv kp pt
theorem ok_pot_of {f : Addr} {fd : FuncData} (F : Fun K "_law_pot_of" "_law_pot_of" s__law_pot_of f fd) (T : Txt mg) : FnOk P w K mg base CX0 1 f fd P__law_pot_of (spPotOf K) := by
  refine F.ok sc__law_pot_of (fun vs H Q E h => ?_) (fun cdv A outer s H vs Q E hr h => ?_)
  · obtain ⟨a, ns, x, rfl, _⟩ := h
    rfl
  · obtain ⟨a, ns, x, rfl, hS, few, x0, x1, k⟩ := h
    refine ⟨_, (pss_cons (ps_set (i := 2) sc__law_pot_of.nd rfl (Or.inl rfl) (pe_ifExp (pt_cmpR op_lt (pv 1) (pe_callB call_len_seq (by rfl) T.n_len (by decide +kernel) (pa_cons (pv 0) pa_nil)) (nomark _)) (pe_ix ix_list (pv 0) (pv 1) (fun _ _ => rfl)) (pe_op op_add (pe_op op_mul pe_int (pv 1)) pe_int)))
      (pss_cons (ps_set (i := 3) sc__law_pot_of.nd rfl (Or.inl rfl) (pe_op op_mul (pe_op op_mod (pe_callTy call_int1 (by rfl) T.n_int (by decide +kernel) (pa_cons (pe_callB call_abs (by rfl) T.n_abs (by decide +kernel) (pa_cons (pv 2) pa_nil)) pa_nil)) (pe_op op_powZ (pe_op op_pow pe_int pe_int) pe_int)) (pe_callTy call_int1 (by rfl) T.n_int (by decide +kernel) (pa_cons (pe_cmpR op_ge (pe_callB call_abs (by rfl) T.n_abs (by decide +kernel) (pa_cons (pv 2) pa_nil)) (pe_op op_pow pe_int pe_int) (nomark _)) pa_nil))))
      (pss_one (ps_ret (pe_lst (pa_cons (pv 3) (pa_cons (pe_op op_mod (pe_callTy call_int1 (by rfl) T.n_int (by decide +kernel) (pa_cons (pe_op op_add (pe_op op_add (pe_op op_mul (pe_op op_mod (pe_callTy call_int1 (by rfl) T.n_int (by decide +kernel) (pa_cons (pv 2) pa_nil)) pe_int) pe_int) (pe_op op_mul (pe_op op_mul pe_int (pv 1)) (pv 1))) pe_int) pa_nil)) pe_int) (pa_cons pe_int pa_nil)))))))), ?_⟩
    fail "z go"
    refine rd_lenLs hS ?_
    fail "z go"
    refine rd_ite (fun h => ?_) (fun h => ?_)
    · fail "z go"
      refine rd_ixLsr hS x0 h fun v hv => ?_
      obtain ⟨c, _, rfl⟩ := List.mem_map.mp hv
      fail "z go"
      refine rd_I (show CPowZ _ _ from ⟨by decide, by decide +kernel⟩) ?_
      fail "z go"
      refine rd_I (by decide +kernel) ?_
      fail "z go"
      intro p hp
      refine k p _ hp (same_new hp) ⟨_, _, _, upd_same, Int.mul_nonneg (Int.emod_nonneg _ (by decide +kernel)) (if01 _), Int.emod_nonneg _ (by decide), Int.emod_lt_of_pos _ (by decide), by decide, by decide⟩
    · fail "z go"
      refine rd_I (show CPowZ _ _ from ⟨by decide, by decide +kernel⟩) ?_
      fail "z go"
      refine rd_I (by decide +kernel) ?_
      fail "z go"
      intro p hp
      refine k p _ hp (same_new hp) ⟨_, _, _, upd_same, Int.mul_nonneg (Int.emod_nonneg _ (by decide +kernel)) (if01 _), Int.emod_nonneg _ (by decide), Int.emod_lt_of_pos _ (by decide), by decide, by decide⟩
/-! ### integers and kinds -/
abbrev s_is_integer : Stmt := (top 9)
abbrev N_is_integer : List Str := ["value"]
abbrev P_is_integer : List Str := ["value"]
theorem sc_is_integer : FnScope N_is_integer P_is_integer (defScope s_is_integer) := ⟨rfl, rfl, rfl, by decide +kernel, rfl, by decide +kernel, by decide +kernel⟩
abbrev s_Kind___init__ : Stmt := (inClass (top 26) 0)
abbrev N_Kind___init__ : List Str := ["self", "low", "high"]
abbrev P_Kind___init__ : List Str := ["self", "low", "high"]
theorem sc_Kind___init__ : FnScope N_Kind___init__ P_Kind___init__ (defScope s_Kind___init__) := ⟨rfl, rfl, rfl, by decide +kernel, rfl, by decide +kernel, by decide +kernel⟩

/-- a plain value: none, a bool, an int, a text, a list, a tuple, a dict -/
inductive Plain (H : Hp) : V → Prop where
  | non : Plain H .non
  | bl (b : Bool) : Plain H (.bl b)
  | int (i : Int) : Plain H (.int i)
  | str (x : Str) : Plain H (.str x)
  | lst {a : Addr} {xs : List V} (e : H a = some (.lst xs)) : Plain H (.ref a)
  | tup {a : Addr} {xs : List V} (e : H a = some (.tup xs)) : Plain H (.ref a)
  | dK {a : Addr} {kvs : List (Key × V)} (e : H a = some (.dK kvs)) : Plain H (.ref a)
def isI : V → Bool
  | .int _ => true
  | _ => false
/-- isinstance of a plain value and a built-in class -/
theorem rd_isi {K : PySem.W.Frag} {H : Hp} {Q : VK} {v : V} {t n : String} {b : Bool} (ty : TyX K H v (.type t)) (e : kitB t n = some b) (k : Q (.bl b) H) : rIsi K [v, .ty n] H Q :=
  ⟨v, .ty n, _, _, b, rfl, .ty n, ty, kit_ty e, k⟩
theorem rd_isiP {K : PySem.W.Frag} {H : Hp} {Q : VK} {v : V} (p : Plain H v) (k1 : ∀ b : Bool, (b = true → isI v = true ∨ ∃ c, v = .bl c) → (isI v = true → b = true) → (∀ c, v = .bl c → b = true) → Q (.bl b) H) : rIsi K [v, .ty "int"] H Q := by
  cases p with
  | non => exact rd_isi (.base .non) (by decide +kernel) (k1 false (fun z => nomatch z) (fun z => nomatch z) fun c z => nomatch z)
  | bl b => exact rd_isi (.base (.bl b)) (by decide +kernel) (k1 true (fun _ => .inr ⟨b, rfl⟩) (fun _ => rfl) fun _ _ => rfl)
  | int i => exact rd_isi (.base (.int i)) (by decide +kernel) (k1 true (fun _ => .inl rfl) (fun _ => rfl) fun _ _ => rfl)
  | str x => exact rd_isi (.base (.str x)) (by decide +kernel) (k1 false (fun z => nomatch z) (fun z => nomatch z) fun c z => nomatch z)
  | lst e => exact rd_isi (.base (.lst e)) (by decide +kernel) (k1 false (fun z => nomatch z) (fun z => nomatch z) fun c z => nomatch z)
  | tup e => exact rd_isi (.base (.tup e)) (by decide +kernel) (k1 false (fun z => nomatch z) (fun z => nomatch z) fun c z => nomatch z)
  | dK e => exact rd_isi (.base (.dK e)) (by decide +kernel) (k1 false (fun z => nomatch z) (fun z => nomatch z) fun c z => nomatch z)
theorem rd_isiB {K : PySem.W.Frag} {H : Hp} {Q : VK} {v : V} (p : Plain H v) (k1 : ∀ b : Bool, (b = true ↔ ∃ c, v = .bl c) → Q (.bl b) H) : rIsi K [v, .ty "bool"] H Q := by
  cases p with
  | non => exact rd_isi (.base .non) (by decide +kernel) (k1 false ⟨fun z => Bool.noConfusion z, fun ⟨c, z⟩ => V.noConfusion z⟩)
  | bl b => exact rd_isi (.base (.bl b)) (by decide +kernel) (k1 true ⟨fun _ => ⟨b, rfl⟩, fun _ => rfl⟩)
  | int i => exact rd_isi (.base (.int i)) (by decide +kernel) (k1 false ⟨fun z => Bool.noConfusion z, fun ⟨c, z⟩ => V.noConfusion z⟩)
  | str x => exact rd_isi (.base (.str x)) (by decide +kernel) (k1 false ⟨fun z => Bool.noConfusion z, fun ⟨c, z⟩ => V.noConfusion z⟩)
  | lst e => exact rd_isi (.base (.lst e)) (by decide +kernel) (k1 false ⟨fun z => Bool.noConfusion z, fun ⟨c, z⟩ => V.noConfusion z⟩)
  | tup e => exact rd_isi (.base (.tup e)) (by decide +kernel) (k1 false ⟨fun z => Bool.noConfusion z, fun ⟨c, z⟩ => V.noConfusion z⟩)
  | dK e => exact rd_isi (.base (.dK e)) (by decide +kernel) (k1 false ⟨fun z => Bool.noConfusion z, fun ⟨c, z⟩ => V.noConfusion z⟩)
def spIsInt : Sp := fun vs H Q _ => ∃ v, vs = [v] ∧ Plain H v ∧ Q (.bl (isI v)) H
theorem ok_is_integer {f : Addr} {fd : FuncData} (F : Fun K "is_integer" "is_integer" s_is_integer f fd) (T : Txt mg) : FnOk P w K mg base CX0 1 f fd P_is_integer spIsInt := by
  refine F.ok sc_is_integer (fun vs H Q E h => ?_) (fun cdv A outer s H vs Q E hr h => ?_)
  · obtain ⟨v, rfl, _⟩ := h
    rfl
  · obtain ⟨v, rfl, p, k⟩ := h
    refine ⟨_, (pss_one (ps_ret (pe_and (pe_callB call_isi (by rfl) T.n_isinstance (by decide +kernel) (pa_cons (pv 0) (pa_cons (pe_bltn (v := .ty "int") (by rfl) T.n_int (by decide +kernel) rfl) pa_nil))) (pe_one (pe_not (pe_callB call_isi (by rfl) T.n_isinstance (by decide +kernel) (pa_cons (pv 0) (pa_cons (pe_bltn (v := .ty "bool") (by rfl) T.n_bool (by decide +kernel) rfl) pa_nil)))))))), ?_⟩
    fail "z go"
    refine rd_isiP p fun b h1 h2 h3 => ?_
    fail "z go"
    refine rd_iteB (fun hb => ?_) (fun hb => ?_)
    · fail "z go"
      refine rd_isiB p fun c hc => ?_
      fail "z go"
      show Q (.bl (!c)) H
      have e : (!c) = isI v := by
        rcases h1 hb with z | z
        · rw [z]
          cases c with
          | false => rfl
          | true =>
            obtain ⟨d, rfl⟩ := hc.mp rfl
            cases z
        · rw [hc.mpr z]
          obtain ⟨d, rfl⟩ := z
          rfl
      rw [e]
      exact k
    · show Q (.bl false) H
      have e : isI v = false := by
        cases q : isI v with
        | false => rfl
        | true =>
          rw [h2 q] at hb
          cases hb
      rw [← e]
      exact k
/-- the fields of a kind -/
def kf (lo hi : Int) : List (Str × V) := putF "size" (.int (hi - lo + 1)) (putF "high" (.int hi) (putF "low" (.int lo) []))
theorem kf_low (lo hi : Int) : (kf lo hi).lookup ("low" : Str) = some (.int lo) := by
  unfold kf
  rw [lookup_putF, if_neg (by decide +kernel), lookup_putF, if_neg (by decide +kernel), lookup_putF, if_pos rfl]
theorem kf_high (lo hi : Int) : (kf lo hi).lookup ("high" : Str) = some (.int hi) := by
  unfold kf
  rw [lookup_putF, if_neg (by decide +kernel), lookup_putF, if_pos rfl]
theorem kf_size (lo hi : Int) : (kf lo hi).lookup ("size" : Str) = some (.int (hi - lo + 1)) := by
  unfold kf
  rw [lookup_putF, if_pos rfl]
structure KindT (K : PySem.W.Frag) (C : Addr) : Prop where
  cl : Cls K C
  n_low : NoAttr K C "low"
  n_high : NoAttr K C "high"
  n_size : NoAttr K C "size"
def IsKind (C : Addr) (H : Hp) (a : Addr) (lo hi : Int) : Prop := ∃ dx, H a = some (.ins C dx (kf lo hi))
theorem IsKind.same {C a : Addr} {H H' : Hp} {lo hi : Int} (h : IsKind C H a lo hi) (s : Same H H') : IsKind C H' a lo hi := by
  obtain ⟨dx, e⟩ := h
  exact ⟨dx, s _ _ e⟩
def spKind (C : Addr) : Sp := fun vs H Q _ => ∃ (p dx : Addr) (lo hi : Int), vs = [.ref p, .int lo, .int hi] ∧ lo ≤ 0 ∧ 0 ≤ hi ∧ H p = some (.ins C dx []) ∧
  ∀ H' : Hp, Kp p H H' → H' p = some (.ins C dx (kf lo hi)) → Q .non H'
def CalK (P : Program) (w : World) (K : PySem.W.Frag) (mg : Str → Option Value) (base : Heap) (C : Addr) : Prop :=
  ∃ (f : Addr) (fd : FuncData), Mk K C f ∧ FnOk P w K mg base CX0 2 f fd P_Kind___init__ (spKind C) ∧ Binds K fd P_Kind___init__ [] ∧ mg "Kind" = some (.ref C)
theorem ok_Kind {f C : Addr} {fd : FuncData} (F : Fun K "__init__" "Kind.__init__" s_Kind___init__ f fd) (KT : KindT K C) (c_is : Cal P w K mg base 1 "is_integer" P_is_integer spIsInt) :
    FnOk P w K mg base CX0 2 f fd P_Kind___init__ (spKind C) := by
  obtain ⟨f_is, fd_is, G_is_integer, b_is_integer, g_is_integer, k_is_integer⟩ := c_is
  refine F.ok sc_Kind___init__ (fun vs H Q E h => ?_) (fun cdv A outer s H vs Q E hr h => ?_)
  · obtain ⟨p, dx, lo, hi, rfl, _⟩ := h
    rfl
  · obtain ⟨p, dx, lo, hi, rfl, h1, h2, hp, k⟩ := h
    refine ⟨_, (pss_cons (ps_if (PW.pt (pw_or (pt_not (pt_val (pe_call G_is_integer (hr.mono (by decide)) rfl g_is_integer k_is_integer b_is_integer .nil pass0 (pa_cons (pv 1) pa_nil)))) (pw_or (pt_not (pt_val (pe_call G_is_integer (hr.mono (by decide)) rfl g_is_integer k_is_integer b_is_integer .nil pass0 (pa_cons (pv 2) pa_nil)))) (pw_or1 (pt_not (pt_chain op_le op_le (pv 1) pe_int (pv 2))))))) (pss_one ps_never) pss_nil)
      (pss_cons (ps_fld (pv 0) (pv 1) rfl)
      (pss_cons (ps_fld (pv 0) (pv 2) rfl)
      (pss_one (ps_fld (pv 0) (pe_op op_add (pe_op op_sub (pv 2) (pv 1)) pe_int) rfl))))), ?_⟩
    fail "z go"
    refine ⟨_, rfl, .int lo, ?_⟩
    fail "z go"
    refine iteF ?_
    fail "z go"
    refine ⟨_, rfl, .int hi, ?_⟩
    fail "z go"
    refine iteF ?_
    fail "z go"
    rw [decide_eq_true h1]
    refine iteT ?_
    fail "z go"
    rw [decide_eq_true h2]
    refine iteF ?_
    fail "z go"
    refine rd_sfldI hp KT.cl KT.n_low (by decide) ?_
    fail "z go"
    have l1 := length_putF "low" (.int lo) []
    refine rd_sfldI upd_same KT.cl KT.n_high (by show _ < 1000; simp only [List.length_nil] at l1; omega) ?_
    fail "z go"
    have l2 := length_putF "high" (.int hi) (putF "low" (.int lo) [])
    refine rd_sfldI upd_same KT.cl KT.n_size (by show _ < 1000; simp only [List.length_nil] at l1; omega) ?_
    exact k _ Kp.refl.put.put.put upd_same
/-- Kind(low, high) where it is called: a new kind, all else as it was -/
theorem rd_Kind {C : Addr} {H : Hp} {E : XK} {lo hi : Int} {R : Addr → Hp → Prop} (h1 : lo ≤ 0) (h2 : 0 ≤ hi) (k : ∀ (a : Addr) (H' : Hp), H a = none → Same H H' → IsKind C H' a lo hi → R a H') :
    ∀ x dx, H x = none → H dx = none → dx ≠ x → spKind C (.ref x :: ([V.int lo, V.int hi] ++ [])) (upd (upd H dx (.own x)) x (.ins C dx [])) (fun v H2 => v = .non ∧ R x H2) E := by
  intro x dx nx nd ne
  refine ⟨x, dx, lo, hi, rfl, h1, h2, upd_same, fun H' kp hx => ⟨rfl, k x H' nx (fun b o e => ?_) ⟨dx, hx⟩⟩⟩
  have n1 : b ≠ x := ne_of_none e nx
  exact kp b o n1 ((upd_ne n1).trans ((upd_ne (ne_of_none e nd)).trans e))
end
section
variable {P : Program} {w : World} {K : PySem.W.Frag} {mg : Str → Option Value} {base : Heap}
/-! ### numbers of one cut: the mathematics -/
/-- the least integer from s on that differs from n by a multiple of m -/
def nxt (m s n : Int) : Int := s + (n - s) % m
theorem nxt_ge {m s n : Int} (hm : 0 < m) : s ≤ nxt m s n := by
  have := Int.emod_nonneg (n - s) (by omega : m ≠ 0)
  unfold nxt
  omega
theorem nxt_lt {m s n : Int} (hm : 0 < m) : nxt m s n < s + m := by
  have := Int.emod_lt_of_pos (n - s) hm
  unfold nxt
  omega
theorem nxt_dvd {m s n : Int} : m ∣ nxt m s n - n := by
  have h : nxt m s n - n = -((n - s) - (n - s) % m) := by unfold nxt; omega
  rw [h]
  exact Int.dvd_neg.mpr (Int.dvd_self_sub_emod)
theorem dvd_small {m d : Int} (h : m ∣ d) (h1 : -m < d) : 0 ≤ d := by
  by_cases q : 0 ≤ d
  · exact q
  · have := Int.le_of_dvd (a := m) (b := -d) (by omega) (Int.dvd_neg.mpr h)
    omega
theorem dvd_big {m d : Int} (h : m ∣ d) (h1 : 0 ≤ d) (h2 : d ≠ 0) : m ≤ d := Int.le_of_dvd (by omega) h
theorem dvd_tr {m a b c : Int} (h1 : m ∣ a - b) (h2 : m ∣ b - c) : m ∣ a - c := by
  have : a - c = (a - b) + (b - c) := by omega
  rw [this]
  exact Int.dvd_add h1 h2
theorem dvd_sy {m a b : Int} (h1 : m ∣ a - b) : m ∣ b - a := by
  have : b - a = -(a - b) := by omega
  rw [this]
  exact Int.dvd_neg.mpr h1
/-- what differs from n by a multiple of m, from s on, is nxt or at least m above -/
theorem nxt_min {m s n x : Int} (hm : 0 < m) (hx : s ≤ x) (h : m ∣ x - n) : x = nxt m s n ∨ nxt m s n + m ≤ x := by
  have h1 : m ∣ x - nxt m s n := dvd_tr h (dvd_sy nxt_dvd)
  have h2 := nxt_lt (m := m) (s := s) (n := n) hm
  have h3 := dvd_small h1 (by omega)
  by_cases q : x - nxt m s n = 0
  · exact .inl (by omega)
  · have := dvd_big h1 h3 q
    exact .inr (by omega)
def InR (o0 o1 p0 p1 a b : Int) : Prop := o0 ≤ a ∧ a ≤ o1 ∧ p0 ≤ b ∧ b ≤ p1
def Valid (m o0 o1 p0 p1 a b : Int) : Prop := InR o0 o1 p0 p1 a b ∧ a ≠ b ∧ m ∣ a - b
def LexLe (x y a b : Int) : Prop := x < a ∨ (x = a ∧ y ≤ b)
theorem LexLe.trans {x y a b c d : Int} (h : LexLe x y a b) (k : LexLe a b c d) : LexLe x y c d := by
  unfold LexLe at *
  omega
theorem LexLe.anti {x y a b : Int} (h : LexLe x y a b) (k : LexLe a b x y) : x = a ∧ y = b := by
  unfold LexLe at *
  omega
/-- the numbers that are looked at -/
def As (m o0 p0 : Int) : List Int := [o0, nxt m o0 p0, nxt m o0 p0 + m]
def Bs (m p0 a : Int) : List Int := [nxt m p0 a, nxt m p0 a + m]
theorem Bs_dvd {m p0 a b : Int} (h : b ∈ Bs m p0 a) : m ∣ a - b := by
  simp only [Bs, List.mem_cons, List.not_mem_nil, or_false] at h
  rcases h with rfl | rfl
  · exact dvd_sy nxt_dvd
  · have e : a - (nxt m p0 a + m) = (a - nxt m p0 a) + -m := by omega
    rw [e]
    exact Int.dvd_add (dvd_sy nxt_dvd) (Int.dvd_neg.mpr (Int.dvd_refl m))
theorem cands {m o0 o1 p0 p1 a b : Int} (hm : 0 < m) (h : Valid m o0 o1 p0 p1 a b) :
    ∃ a' ∈ As m o0 p0, ∃ b' ∈ Bs m p0 a', a' ≠ b' ∧ InR o0 o1 p0 p1 a' b' ∧ LexLe a' b' a b := by
  obtain ⟨⟨h1, h2, h3, h4⟩, ne, dv⟩ := h
  by_cases c : a - o0 ≤ b - p0
  · -- down to the first of one
    have dv' : m ∣ (b - (a - o0)) - o0 := by
      have e : (b - (a - o0)) - o0 = b - a := by omega
      rw [e]
      exact dvd_sy dv
    have z := nxt_min (s := p0) hm (by omega) dv'
    by_cases q : nxt m p0 o0 = o0
    · refine ⟨o0, by simp [As], nxt m p0 o0 + m, by simp [Bs], by omega, ⟨by omega, by omega, by have := nxt_ge (s := p0) (n := o0) hm; omega, by omega⟩, ?_⟩
      unfold LexLe
      omega
    · refine ⟨o0, by simp [As], nxt m p0 o0, by simp [Bs], fun e => q e.symm, ⟨by omega, by omega, nxt_ge hm, by omega⟩, ?_⟩
      unfold LexLe
      omega
  · have dv' : m ∣ (a - (b - p0)) - p0 := by
      have e : (a - (b - p0)) - p0 = a - b := by omega
      rw [e]
      exact dv
    have z := nxt_min (s := o0) hm (by omega) dv'
    have tw : ∀ x, m ∣ x - p0 → nxt m p0 x = p0 := fun x hx => by
      have z := nxt_min (m := m) (s := p0) (n := x) (x := p0) hm (Int.le_refl _) (dvd_sy hx)
      have := nxt_ge (m := m) (s := p0) (n := x) hm
      omega
    by_cases q : nxt m o0 p0 = p0
    · have e := tw (nxt m o0 p0 + m) (by
        have e : nxt m o0 p0 + m - p0 = (nxt m o0 p0 - p0) + m := by omega
        rw [e]
        exact Int.dvd_add nxt_dvd (Int.dvd_refl m))
      refine ⟨nxt m o0 p0 + m, by simp [As], p0, by simp [Bs, e], by omega, ⟨by have := nxt_ge (s := o0) (n := p0) hm; omega, by omega, by omega, by omega⟩, ?_⟩
      unfold LexLe
      omega
    · have e := tw (nxt m o0 p0) nxt_dvd
      refine ⟨nxt m o0 p0, by simp [As], p0, by simp [Bs, e], q, ⟨nxt_ge hm, by omega, by omega, by omega⟩, ?_⟩
      unfold LexLe
      omega
/-- cuts are alike just if the numbers differ by a multiple -/
theorem cut_iff {m lo a b : Int} : lo + (a - lo) % m = lo + (b - lo) % m ↔ m ∣ a - b := by
  constructor
  · intro h
    have e : (a - lo) % m = (b - lo) % m := by omega
    have z := Int.emod_emod_of_dvd
    have := Int.dvd_of_emod_eq_zero (Int.emod_eq_emod_iff_emod_sub_eq_zero.mp e)
    have e2 : (a - lo) - (b - lo) = a - b := by omega
    rw [e2] at this
    exact this
  · intro h
    have e2 : (a - lo) - (b - lo) = a - b := by omega
    have e : (a - lo) % m = (b - lo) % m := Int.emod_eq_emod_iff_emod_sub_eq_zero.mpr (Int.emod_eq_zero_of_dvd (by rw [e2]; exact h))
    omega
/-! ### the order of cuts: the mathematics -/
/-- the place of x in its block -/
def pl (lo m x : Int) : Int := (x - lo) % m
theorem pl_ge {lo m x : Int} (hm : 0 < m) : 0 ≤ pl lo m x := Int.emod_nonneg _ (by omega)
theorem pl_lt {lo m x : Int} (hm : 0 < m) : pl lo m x < m := Int.emod_lt_of_pos _ hm
theorem pl_eq {lo m x y : Int} : pl lo m x = pl lo m y ↔ m ∣ x - y := by
  have h := cut_iff (m := m) (lo := lo) (a := x) (b := y)
  unfold pl
  constructor
  · intro e
    exact h.mp (by omega)
  · intro e
    have := h.mpr e
    omega
theorem pl_lo {lo m : Int} : pl lo m lo = 0 := by
  unfold pl
  rw [Int.sub_self, Int.zero_emod]
/-- from x to x + 1 the place goes up by one, or begins anew -/
theorem pl_step {lo m x : Int} (hm : 0 < m) : pl lo m (x + 1) = pl lo m x + 1 ∨ (pl lo m (x + 1) = 0 ∧ pl lo m x = m - 1) := by
  have h0 := pl_ge (lo := lo) (x := x) hm
  have h1 := pl_lt (lo := lo) (x := x) hm
  have dv : m ∣ (x - lo) - pl lo m x := Int.dvd_self_sub_emod
  by_cases q : pl lo m x = m - 1
  · refine .inr ⟨?_, q⟩
    have d2 : m ∣ (x + 1) - lo := by
      have e : (x + 1) - lo = ((x - lo) - pl lo m x) + m := by omega
      rw [e]
      exact Int.dvd_add dv (Int.dvd_refl m)
    rw [pl_eq.mpr d2, pl_lo]
  · refine .inl ?_
    have e : pl lo m (x + 1) = pl lo m (lo + (pl lo m x + 1)) := pl_eq.mpr (by
      have e : (x + 1) - (lo + (pl lo m x + 1)) = (x - lo) - pl lo m x := by omega
      rw [e]
      exact dv)
    rw [e]
    have e2 : lo + (pl lo m x + 1) - lo = pl lo m x + 1 := by omega
    show (lo + (pl lo m x + 1) - lo) % m = pl lo m x + 1
    rw [e2]
    exact Int.emod_eq_of_lt (by omega) (by omega)
def Wr (lo m a b : Int) : Prop := ¬ (pl lo m a < pl lo m b ↔ a < b)
theorem wr_iff {lo m a b : Int} : Wr lo m a b ↔ (a < b ∧ pl lo m b ≤ pl lo m a) ∨ (b ≤ a ∧ pl lo m a < pl lo m b) := by
  unfold Wr
  constructor
  · intro h
    by_cases c : a < b
    · by_cases d : pl lo m a < pl lo m b
      · exact absurd ⟨fun _ => c, fun _ => d⟩ h
      · exact .inl ⟨c, by omega⟩
    · by_cases d : pl lo m a < pl lo m b
      · exact .inr ⟨by omega, d⟩
      · exact absurd ⟨fun z => absurd z d, fun z => absurd z c⟩ h
  · rintro (⟨c, d⟩ | ⟨c, d⟩) h
    · have := h.mpr c
      omega
    · have := h.mp d
      omega
def As2 (lo m o0 p0 : Int) : List Int := [o0, nxt m o0 p0, nxt m (if o0 ≥ p0 + 1 then o0 else p0 + 1) lo]
def Bs2 (lo m p0 a : Int) : List Int := [p0, nxt m p0 (a + 1), nxt m (if p0 ≥ a + 1 then p0 else a + 1) lo]
/-- for one a: a wrong b that is looked at, not above -/
theorem down_b {lo m p0 a : Int} (hm : 0 < m) : ∀ (k : Nat) (b : Int), (b - p0).toNat = k → p0 ≤ b → Wr lo m a b → ∃ b' ∈ Bs2 lo m p0 a, p0 ≤ b' ∧ b' ≤ b ∧ Wr lo m a b' := by
  intro k
  induction k with
  | zero =>
    intro b hk hb w
    have e : b = p0 := by omega
    exact ⟨p0, by simp [Bs2], Int.le_refl _, hb, by rw [← e]; exact w⟩
  | succ k ih =>
    intro b hk hb w
    by_cases w' : Wr lo m a (b - 1)
    · obtain ⟨b', h1, h2, h3, h4⟩ := ih (b - 1) (by omega) (by omega) w'
      exact ⟨b', h1, h2, by omega, h4⟩
    · rw [wr_iff] at w
      have n1 := fun h => w' (wr_iff.mpr h)
      have st := pl_step (lo := lo) (x := b - 1) hm
      have eb : b - 1 + 1 = b := by omega
      rw [eb] at st
      have g1 := pl_ge (lo := lo) (x := a) hm
      rcases w with ⟨c, d⟩ | ⟨c, d⟩
      · -- the cuts begin anew with b
        have z : pl lo m b = 0 := by
          rcases st with st | ⟨st, _⟩
          · by_cases q : a < b - 1
            · have l : pl lo m a < pl lo m (b - 1) := by
                by_cases q2 : pl lo m (b - 1) ≤ pl lo m a
                · exact (n1 (.inl ⟨q, q2⟩)).elim
                · omega
              omega
            · have e : a = b - 1 := by omega
              rw [e] at d
              omega
          · exact st
        have dv : m ∣ b - lo := pl_eq.mp (by rw [z, pl_lo])
        obtain ⟨s, hs, s1, s2, s3⟩ : ∃ s, s = (if p0 ≥ a + 1 then p0 else a + 1) ∧ p0 ≤ s ∧ a + 1 ≤ s ∧ s ≤ b := ⟨_, rfl, by split <;> omega, by split <;> omega, by split <;> omega⟩
        have mn := nxt_min (s := s) hm s3 dv
        have ge := nxt_ge (s := s) (n := lo) hm
        have e0 : pl lo m (nxt m s lo) = 0 := by
          rw [pl_eq.mpr (nxt_dvd (m := m) (s := s) (n := lo)), pl_lo]
        exact ⟨nxt m s lo, by simp [Bs2, hs], by omega, by omega, wr_iff.mpr (.inl ⟨by omega, by omega⟩)⟩
      · have n2 : pl lo m (b - 1) ≤ pl lo m a := by
          by_cases q : pl lo m a < pl lo m (b - 1)
          · exact (n1 (.inr ⟨by omega, q⟩)).elim
          · omega
        have e1 : pl lo m b = pl lo m (a + 1) := by
          have sa := pl_step (lo := lo) (x := a) hm
          rcases st with st | ⟨st, _⟩
          · have e : pl lo m (b - 1) = pl lo m a := by omega
            have dv := pl_eq.mp e
            apply pl_eq.mpr
            have e : b - (a + 1) = b - 1 - a := by omega
            rw [e]
            exact dv
          · omega
        have dv := pl_eq.mp e1
        have mn := nxt_min (s := p0) hm hb dv
        refine ⟨nxt m p0 (a + 1), by simp [Bs2], nxt_ge hm, by omega, wr_iff.mpr (.inr ⟨by omega, ?_⟩)⟩
        rw [pl_eq.mpr (nxt_dvd (m := m) (s := p0) (n := a + 1)), ← e1]
        exact d
/-- a wrong pair with a first number that is looked at, not above -/
theorem down_a {lo m o0 p0 p1 : Int} (hm : 0 < m) : ∀ (k : Nat) (a b : Int), (a - o0).toNat ≤ k → o0 ≤ a → p0 ≤ b → b ≤ p1 → Wr lo m a b →
    ∃ a' ∈ As2 lo m o0 p0, ∃ b', o0 ≤ a' ∧ a' ≤ a ∧ p0 ≤ b' ∧ b' ≤ p1 ∧ Wr lo m a' b' ∧ LexLe a' b' a b := by
  intro k
  induction k with
  | zero =>
    intro a b hk ha hb1 hb2 w
    have e : a = o0 := by omega
    exact ⟨a, by simp [As2, e], b, ha, Int.le_refl _, hb1, hb2, w, .inr ⟨rfl, Int.le_refl _⟩⟩
  | succ k ih =>
    intro a b hk ha hb1 hb2 w
    by_cases lower : ∃ x y, o0 ≤ x ∧ x < a ∧ p0 ≤ y ∧ y ≤ p1 ∧ Wr lo m x y
    · obtain ⟨x, y, h1, h2, h3, h4, h5⟩ := lower
      obtain ⟨a', m1, b', q1, q2, q3, q4, q5, q6⟩ := ih x y (by omega) h1 h3 h4 h5
      exact ⟨a', m1, b', q1, by omega, q3, q4, q5, .inl (by omega)⟩
    · by_cases e0 : a = o0
      · exact ⟨a, by simp [As2, e0], b, ha, Int.le_refl _, hb1, hb2, w, .inr ⟨rfl, Int.le_refl _⟩⟩
      · have no : ∀ x y, o0 ≤ x → x < a → p0 ≤ y → y ≤ p1 → ¬ Wr lo m x y := fun x y h1 h2 h3 h4 h5 => lower ⟨x, y, h1, h2, h3, h4, h5⟩
        have own : a ∈ As2 lo m o0 p0 := by
          have w0 := w
          rw [wr_iff] at w
          have st := pl_step (lo := lo) (x := a - 1) hm
          have ea : a - 1 + 1 = a := by omega
          rw [ea] at st
          have n1 := fun h => no (a - 1) b (by omega) (by omega) hb1 hb2 (wr_iff.mpr h)
          rcases w with ⟨c, d⟩ | ⟨c, d⟩
          · -- the cut of a reaches that of the first of other
            have l1 : pl lo m (a - 1) < pl lo m b := by
              by_cases q : pl lo m b ≤ pl lo m (a - 1)
              · exact (n1 (.inl ⟨by omega, q⟩)).elim
              · omega
            have eq : pl lo m a = pl lo m b := by
              rcases st with st | ⟨st, _⟩
              · omega
              · have := pl_ge (lo := lo) (x := a - 1) hm
                omega
            have bp : b = p0 := by
              by_cases q : b = p0
              · exact q
              · have e : pl lo m (a - 1) = pl lo m (b - 1) := pl_eq.mpr (by
                  have e : a - 1 - (b - 1) = a - b := by omega
                  rw [e]
                  exact pl_eq.mp eq)
                exact (no (a - 1) (b - 1) (by omega) (by omega) (by omega) (by omega) (wr_iff.mpr (.inl ⟨by omega, by omega⟩))).elim
            rw [bp] at eq c
            have dv := pl_eq.mp eq
            have mn := nxt_min (s := o0) hm ha dv
            rcases mn with mn | mn
            · rw [mn]
              simp [As2]
            · exact (no (nxt m o0 p0) p0 (nxt_ge hm) (by omega) (Int.le_refl _) (by omega) (wr_iff.mpr (.inl ⟨by omega, by rw [pl_eq.mpr (nxt_dvd (m := m) (s := o0) (n := p0))]; exact Int.le_refl _⟩))).elim
          · have ne : a ≠ b := fun e => by rw [e] at d; omega
            have l1 : pl lo m b ≤ pl lo m (a - 1) := by
              by_cases q : pl lo m (a - 1) < pl lo m b
              · exact (n1 (.inr ⟨by omega, q⟩)).elim
              · omega
            have z : pl lo m a = 0 := by omega
            have dv : m ∣ a - lo := pl_eq.mp (by rw [z, pl_lo])
            obtain ⟨s, hs, s1, s2, s3⟩ : ∃ s, s = (if o0 ≥ p0 + 1 then o0 else p0 + 1) ∧ o0 ≤ s ∧ p0 + 1 ≤ s ∧ s ≤ a := ⟨_, rfl, by split <;> omega, by split <;> omega, by split <;> omega⟩
            have mn := nxt_min (s := s) hm s3 dv
            have ge := nxt_ge (s := s) (n := lo) hm
            rcases mn with mn | mn
            · rw [mn]
              simp [As2, hs]
            · exfalso
              have z0 : pl lo m (nxt m s lo) = 0 := by
                rw [pl_eq.mpr (nxt_dvd (m := m) (s := s) (n := lo)), pl_lo]
              generalize hx : nxt m s lo = x at *
              have x1 : o0 ≤ x := by omega
              have x2 : p0 + 1 ≤ x := by omega
              by_cases q : pl lo m p0 = 0
              · have sp := pl_step (lo := lo) (x := p0) hm
                have lb := pl_lt (lo := lo) (x := b) hm
                have m2 : 2 ≤ m := by omega
                have s1 : pl lo m (p0 + 1) = 1 := by omega
                have xp : p0 + 1 ≠ x := fun e => by rw [e, z0] at s1; omega
                have bp : b ≠ p0 := fun e => by rw [e, q] at d; omega
                exact no x (p0 + 1) x1 (by omega) (by omega) (by omega) (wr_iff.mpr (.inr ⟨by omega, by omega⟩))
              · have := pl_ge (lo := lo) (x := p0) hm
                exact no x p0 x1 (by omega) (Int.le_refl _) (by omega) (wr_iff.mpr (.inr ⟨by omega, by omega⟩))
        exact ⟨a, own, b, ha, Int.le_refl _, hb1, hb2, w, .inr ⟨rfl, Int.le_refl _⟩⟩
theorem cands2 {lo m o0 o1 p0 p1 a b : Int} (hm : 0 < m) (i : InR o0 o1 p0 p1 a b) (w : Wr lo m a b) :
    ∃ a' ∈ As2 lo m o0 p0, ∃ b' ∈ Bs2 lo m p0 a', Wr lo m a' b' ∧ InR o0 o1 p0 p1 a' b' ∧ LexLe a' b' a b := by
  obtain ⟨h1, h2, h3, h4⟩ := i
  obtain ⟨a', m1, b1, q1, q2, q3, q4, q5, q6⟩ := down_a hm _ a b (Nat.le_refl _) h1 h3 h4 w
  obtain ⟨b', m2, r1, r2, r3⟩ := down_b hm _ b1 rfl q3 q5
  refine ⟨a', m1, b', m2, r3, ⟨q1, by omega, r1, by omega⟩, ?_⟩
  unfold LexLe at *
  omega
/-! ### windows -/
abbrev s_is_span : Stmt := (top 15)
abbrev N_is_span : List Str := ["value", "first", "last"]
abbrev P_is_span : List Str := ["value"]
theorem sc_is_span : FnScope N_is_span P_is_span (defScope s_is_span) := ⟨rfl, rfl, rfl, by decide +kernel, rfl, by decide +kernel, by decide +kernel⟩
abbrev s__check_spans : Stmt := (top 22)
abbrev N__check_spans : List Str := ["one", "other", "value"]
abbrev P__check_spans : List Str := ["one", "other"]
theorem sc__check_spans : FnScope N__check_spans P__check_spans (defScope s__check_spans) := ⟨rfl, rfl, rfl, by decide +kernel, rfl, by decide +kernel, by decide +kernel⟩
abbrev s__next_like : Stmt := (top 20)
abbrev N__next_like : List Str := ["kind", "start", "number"]
abbrev P__next_like : List Str := ["kind", "start", "number"]
theorem sc__next_like : FnScope N__next_like P__next_like (defScope s__next_like) := ⟨rfl, rfl, rfl, by decide +kernel, rfl, by decide +kernel, by decide +kernel⟩
abbrev s__least : Stmt := (top 21)
abbrev N__least : List Str := ["pairs", "one", "other", "found", "a", "b"]
abbrev P__least : List Str := ["pairs", "one", "other"]
theorem sc__least : FnScope N__least P__least (defScope s__least) := ⟨rfl, rfl, rfl, by decide +kernel, rfl, by decide +kernel, by decide +kernel⟩

section
variable {H : Hp} {Q : VK} {v : V} {p t : Addr} {a b x y : Int}
theorem rd_for {wi : TI} {g : TG} {tb : TS} {D : Ends} {σ : L2.St} (k : wi σ H fun J H1 => ∃ W : Nat → Nat → L2.St → Hp → Prop, (∃ m, W 0 m σ H1) ∧ ∀ i m σ H, W i m σ H →
  (J.stop i H ∧ D.nx σ H) ∨ (J.go i H ∧ ∃ N : L2.St → Hp → Prop, (∀ σ' H', N σ' H' → ∃ m', m' < m ∧ W (i + 1) m' σ' H') ∧ ∀ x H', J.yld i H x H' → g x σ H' fun σ2 H2 => tb { D with nx := N, ct := N, bk := D.nx } σ2 H2)) : tFor wi g tb D σ H := k
theorem rd_iT {tl : TE} {σ : L2.St} {R : It → Hp → Prop} (k : tl σ H fun x H1 => ∃ a, x = .ref a ∧ (∃ xs, SqT K H1 a xs) ∧ R (Itt K a) H1) : iTup K tl σ H R := k
theorem rd_iL {tl : TE} {σ : L2.St} {R : It → Hp → Prop} (k : tl σ H fun x H1 => ∃ a, x = .ref a ∧ (∃ xs, SqL K H1 a xs) ∧ R (Itl K a) H1) : iList K tl σ H R := k
theorem rd_iTa {xs : List V} {R : Addr → Prop} (h : H p = some (.tup xs)) (k : R p) : ∃ a, V.ref p = .ref a ∧ (∃ xs, SqT K H a xs) ∧ R a := ⟨p, rfl, ⟨xs, SqT.of h⟩, k⟩
theorem rd_iLa {xs : List V} {R : Addr → Prop} (h : H p = some (.lst xs)) (k : R p) : ∃ a, V.ref p = .ref a ∧ (∃ xs, SqL K H a xs) ∧ R a := ⟨p, rfl, ⟨xs, SqL.of h⟩, k⟩
theorem rd_ltT {s : Addr} (h : H s = some (.tup [.int a, .int b])) (h' : H t = some (.tup [.int x, .int y])) (k : Q (.bl (decide (a < x ∨ (a = x ∧ b < y)))) H) : rLtT K (.ref s) (.ref t) H Q := by
  refine ⟨s, t, [a, b], [x, y], rfl, rfl, SqT.of h, SqT.of h', ?_⟩
  have e : HT.lexLt [a, b] [x, y] = decide (a < x ∨ (a = x ∧ b < y)) := by
    rw [HT.lexLt_cons]
    by_cases q : a = x
    · rw [if_pos q, HT.lexLt_cons]
      by_cases q2 : b = y
      · rw [if_pos q2, HT.lexLt_nil_nil]
        exact (decide_eq_false (by omega)).symm
      · rw [if_neg q2]
        by_cases q3 : b < y
        · rw [decide_eq_true q3]
          exact (decide_eq_true (by omega)).symm
        · rw [decide_eq_false q3]
          exact (decide_eq_false (by omega)).symm
    · rw [if_neg q]
      by_cases q3 : a < x
      · rw [decide_eq_true q3]
        exact (decide_eq_true (by omega)).symm
      · rw [decide_eq_false q3]
        exact (decide_eq_false (by omega)).symm
  rw [e]
  exact k
end
/-- a span stands at p -/
def Span (H : Hp) (p : Addr) (a b : Int) : Prop := H p = some (.tup [.int a, .int b]) ∧ a ≤ b
theorem Span.same {H H' : Hp} {p : Addr} {a b : Int} (h : Span H p a b) (s : Same H H') : Span H' p a b := ⟨s _ _ h.1, h.2⟩
def spIsSpan : Sp := fun vs H Q _ => ∃ (p : Addr) (a b : Int), vs = [.ref p] ∧ Span H p a b ∧ Q (.bl true) H
theorem ok_is_span {f : Addr} {fd : FuncData} (F : Fun K "is_span" "is_span" s_is_span f fd) (T : Txt mg) (c_is : Cal P w K mg base 1 "is_integer" P_is_integer spIsInt) : FnOk P w K mg base CX0 2 f fd P_is_span spIsSpan := by
  obtain ⟨f_is, fd_is, G_is_integer, b_is_integer, g_is_integer, k_is_integer⟩ := c_is
  refine F.ok sc_is_span (fun vs H Q E h => ?_) (fun cdv A outer s H vs Q E hr h => ?_)
  · obtain ⟨p, a, b, rfl, _⟩ := h
    rfl
  · obtain ⟨p, a, b, rfl, ⟨hp, le⟩, k⟩ := h
    refine ⟨_, (pss_cons (ps_if (PW.pt (pw_or (pt_not (pt_val (pe_callB call_isi (by rfl) T.n_isinstance (by decide +kernel) (pa_cons (pv 0) (pa_cons (pe_bltn (v := .ty "tuple") (by rfl) T.n_tuple (by decide +kernel) rfl) pa_nil))))) (pw_or1 (pt_cmpR op_ne (pe_callB call_len_seq (by rfl) T.n_len (by decide +kernel) (pa_cons (pv 0) pa_nil)) pe_int (nomark _))))) (pss_one (ps_ret pe_bl)) pss_nil)
      (pss_cons (ps_asg (pv 0) (pg_tup rfl (pgs_cons (pg_name (i := 1) sc_is_span.nd rfl (Or.inl rfl)) (pgs_cons (pg_name (i := 2) sc_is_span.nd rfl (Or.inl rfl)) pgs_nil))))
      (pss_one (ps_ret (pe_and (pe_call G_is_integer (hr.mono (by decide)) rfl g_is_integer k_is_integer b_is_integer .nil pass0 (pa_cons (pv 1) pa_nil)) (pe_and (pe_call G_is_integer (hr.mono (by decide)) rfl g_is_integer k_is_integer b_is_integer .nil pass0 (pa_cons (pv 2) pa_nil)) (pe_one (pe_cmpR op_le (pv 1) (pv 2) (nomark _))))))))), ?_⟩
    fail "z go"
    refine rd_isi (.base (.tup hp)) (b := true) (by decide +kernel) ?_
    fail "z go"
    refine iteF ?_
    fail "z go"
    refine iteNS rfl ?_
    fail "z go"
    refine rd_gtup hp rfl ?_
    fail "z go"
    refine ⟨_, rfl, .int a, ?_⟩
    fail "z go"
    refine iteT ?_
    fail "z go"
    refine ⟨_, rfl, .int b, ?_⟩
    fail "z go"
    refine iteT ?_
    fail "z go"
    show Q (.bl (decide (a ≤ b))) H
    rw [decide_eq_true le]
    exact k
def spCheck : Sp := fun vs H Q _ => ∃ (p q : Addr) (a b c d : Int), vs = [.ref p, .ref q] ∧ Span H p a b ∧ Span H q c d ∧ ∀ H', Same H H' → Q .non H'
theorem ok_check {f : Addr} {fd : FuncData} (F : Fun K "_check_spans" "_check_spans" s__check_spans f fd) (c_sp : Cal P w K mg base 2 "is_span" P_is_span spIsSpan) : FnOk P w K mg base CX0 3 f fd P__check_spans spCheck := by
  obtain ⟨f_is, fd_is, G_is_span, b_is_span, g_is_span, k_is_span⟩ := c_sp
  refine F.ok sc__check_spans (fun vs H Q E h => ?_) (fun cdv A outer s H vs Q E hr h => ?_)
  · obtain ⟨p, q, a, b, c, d, rfl, _⟩ := h
    rfl
  · obtain ⟨p, q, a, b, c, d, rfl, hp, hq, k⟩ := h
    refine ⟨_, (pss_one (ps_for PassesOwn.never rfl (pi_tup (pe_tup (pa_cons (pv 0) (pa_cons (pv 1) pa_nil)))) (pg_name (i := 2) sc__check_spans.nd rfl (Or.inl rfl)) (pss_one (ps_if (pt_not (pt_val (pe_call G_is_span (hr.mono (by decide)) rfl g_is_span k_is_span b_is_span .nil pass0 (pa_cons (pv 2) pa_nil)))) (pss_one ps_never) pss_nil)))), ?_⟩
    refine rd_for (rd_iT ?_)
    fail "z go"
    intro t ht
    refine rd_iTa upd_same (for_tup (K := K) (a := t) (xs := [.ref p, .ref q]) (fun i σ H' => ∃ v, σ = [some (.ref p), some (.ref q), v] ∧ Same (upd H t (.tup [.ref p, .ref q])) H')
      ⟨none, rfl, Same.refl _⟩ (fun i σ H' _ ⟨_, _, s⟩ => SqT.of (s _ _ upd_same)) ?_ ?_)
    · rintro i x σ H' hx ⟨v, rfl, s⟩
      have s0 : Same H H' := (same_new ht).trans s
      obtain ⟨z, u, y, rfl, hz⟩ : ∃ z u y, x = .ref z ∧ Span H' z u y := by
        rcases i with _ | _ | i
        · cases hx
          exact ⟨p, a, b, rfl, hp.same s0⟩
        · cases hx
          exact ⟨q, c, d, rfl, hq.same s0⟩
        · simp at hx
      fail "z go"
      refine ⟨z, u, y, rfl, hz, ?_⟩
      fail "z go"
      refine iteF ?_
      fail "z go"
      exact ⟨_, rfl, s⟩
    · rintro σ H' ⟨v, rfl, s⟩
      exact k H' ((same_new ht).trans s)
def spNext (C : Addr) : Sp := fun vs H Q _ => ∃ (kd : Addr) (lo hi s n : Int), vs = [.ref kd, .int s, .int n] ∧ IsKind C H kd lo hi ∧ lo ≤ 0 ∧ 0 ≤ hi ∧ Q (.int (nxt (hi - lo + 1) s n)) H
theorem ok_next {f C : Addr} {fd : FuncData} (F : Fun K "_next_like" "_next_like" s__next_like f fd) (KT : KindT K C) : FnOk P w K mg base CX0 1 f fd P__next_like (spNext C) := by
  refine F.ok sc__next_like (fun vs H Q E h => ?_) (fun cdv A outer s H vs Q E hr h => ?_)
  · obtain ⟨kd, lo, hi, s, n, rfl, _⟩ := h
    rfl
  · obtain ⟨kd, lo, hi, s, n, rfl, ⟨dx, hk⟩, h1, h2, k⟩ := h
    refine ⟨_, (pss_one (ps_ret (pe_op op_add (pv 1) (pe_op op_mod (pe_op op_sub (pv 2) (pv 1)) (pe_fld (pv 0) rfl))))), ?_⟩
    fail "z go"
    refine ⟨_, _, _, _, _, rfl, hk, KT.cl, KT.n_size, kf_size _ _, ?_⟩
    fail "z go"
    exact k

/-- the pairs that stand in a list: each tuple's address, its two numbers -/
def Prs (H : Hp) (zs : List (Addr × Int × Int)) : Prop := ∀ z ∈ zs, H z.1 = some (.tup [.int z.2.1, .int z.2.2])
theorem Prs.keep {H H' : Hp} {l : Addr} {zs : List (Addr × Int × Int)} {xs : List V} (h : Prs H zs) (hl : H l = some (.lst xs)) (k : Kp l H H') : Prs H' zs := fun z hz =>
  k _ _ (fun e => by rw [← e, h z hz] at hl; cases hl) (h z hz)
theorem Prs.same {H H' : Hp} {zs : List (Addr × Int × Int)} (h : Prs H zs) (k : Same H H') : Prs H' zs := fun z hz => k _ _ (h z hz)
def spLeast : Sp := fun vs H Q _ => ∃ (l p q : Addr) (zs : List (Addr × Int × Int)) (o0 o1 p0 p1 : Int), vs = [.ref l, .ref p, .ref q] ∧ H l = some (.lst (zs.map fun z => V.ref z.1)) ∧ Prs H zs ∧ Span H p o0 o1 ∧ Span H q p0 p1 ∧
  (∀ H', Same H H' → (∀ z ∈ zs, ¬ InR o0 o1 p0 p1 z.2.1 z.2.2) → Q .non H') ∧
  (∀ t x y H', Same H H' → H' t = some (.tup [.int x, .int y]) → (∃ z ∈ zs, z.2 = (x, y)) → InR o0 o1 p0 p1 x y → (∀ z ∈ zs, InR o0 o1 p0 p1 z.2.1 z.2.2 → LexLe x y z.2.1 z.2.2) → Q (.ref t) H')
theorem take_mem {α : Type} {l : List α} {i : Nat} {x z : α} (h : l[i]? = some x) (hz : z ∈ l.take (i + 1)) : z ∈ l.take i ∨ z = x := by
  have h1 := (List.getElem?_eq_some_iff.mp h).1
  rw [List.take_add_one, h] at hz
  rcases List.mem_append.mp hz with q | q
  · exact .inl q
  · exact .inr (by simpa using q)
theorem ok_least {f : Addr} {fd : FuncData} (F : Fun K "_least" "_least" s__least f fd) : FnOk P w K mg base CX0 1 f fd P__least spLeast := by
  refine F.ok sc__least (fun vs H Q E h => ?_) (fun cdv A outer s H vs Q E hr h => ?_)
  · obtain ⟨l, p, q, zs, o0, o1, p0, p1, rfl, _⟩ := h
    rfl
  · obtain ⟨l, p, q, zs, o0, o1, p0, p1, rfl, hl, hz, hp, hq, k0, k1⟩ := h
    refine ⟨_, (pss_cons (ps_set (i := 3) sc__least.nd rfl (Or.inl rfl) pe_non)
      (pss_cons (ps_for PassesOwn.never rfl (pi_list (pv 0)) (pg_tup rfl (pgs_cons (pg_name (i := 4) sc__least.nd rfl (Or.inl rfl)) (pgs_cons (pg_name (i := 5) sc__least.nd rfl (Or.inl rfl)) pgs_nil))) (pss_one (ps_if (PW.pt (pw_and (pt_chain op_le op_le (pe_ix ix_tup (pv 1) pe_int (fun _ _ => rfl)) (pv 4) (pe_ix ix_tup (pv 1) pe_int (fun _ _ => rfl))) (pw_and1 (pt_chain op_le op_le (pe_ix ix_tup (pv 2) pe_int (fun _ _ => rfl)) (pv 5) (pe_ix ix_tup (pv 2) pe_int (fun _ _ => rfl)))))) (pss_one (ps_if (PW.pt (pw_or (pt_cmpR op_isN (pv 3) pe_non (nomark _)) (pw_or1 (pt_cmpR (op_ltT hr.units0) (pe_tup (pa_cons (pv 4) (pa_cons (pv 5) pa_nil))) (pv 3) (nomark _))))) (pss_one (ps_set (i := 3) sc__least.nd rfl (Or.inl rfl) (pe_tup (pa_cons (pv 4) (pa_cons (pv 5) pa_nil))))) pss_nil)) pss_nil)))
      (pss_one (ps_ret (pv 3))))), ?_⟩
    fail "z go"
    refine rd_for (rd_iL ?_)
    fail "z go"
    refine rd_iLa hl (for_list (K := K) (a := l) (xs := zs.map fun z => V.ref z.1) (fun i σ H' => ∃ f va vb, σ = [some (.ref l), some (.ref p), some (.ref q), some f, va, vb] ∧ Same H H' ∧
        ((f = .non ∧ ∀ z ∈ zs.take i, ¬ InR o0 o1 p0 p1 z.2.1 z.2.2) ∨ ∃ t x y, f = .ref t ∧ H' t = some (.tup [.int x, .int y]) ∧ (∃ z ∈ zs, z.2 = (x, y)) ∧ InR o0 o1 p0 p1 x y ∧ ∀ z ∈ zs.take i, InR o0 o1 p0 p1 z.2.1 z.2.2 → LexLe x y z.2.1 z.2.2))
      ⟨.non, none, none, rfl, Same.refl _, .inl ⟨rfl, fun z q => by simp at q⟩⟩ (fun i σ H' _ ⟨_, _, _, _, s, _⟩ => SqL.of (s _ _ hl)) ?_ ?_)
    · rintro i v σ H' hi ⟨f, va, vb, rfl, s, inv⟩
      rw [List.getElem?_map] at hi
      obtain ⟨z, hzi, rfl⟩ := Option.map_eq_some_iff.mp hi
      have zin : z ∈ zs := List.mem_of_getElem? hzi
      have tz := s _ _ (hz z zin)
      have tp := s _ _ hp.1
      have tq := s _ _ hq.1
      -- the pair is passed over
      have over : ¬ InR o0 o1 p0 p1 z.2.1 z.2.2 → ((f = .non ∧ ∀ z ∈ zs.take (i + 1), ¬ InR o0 o1 p0 p1 z.2.1 z.2.2) ∨ ∃ t x y, f = .ref t ∧ H' t = some (.tup [.int x, .int y]) ∧ (∃ z ∈ zs, z.2 = (x, y)) ∧ InR o0 o1 p0 p1 x y ∧ ∀ z ∈ zs.take (i + 1), InR o0 o1 p0 p1 z.2.1 z.2.2 → LexLe x y z.2.1 z.2.2) := fun out => by
        rcases inv with ⟨h1, h2⟩ | ⟨t, x, y, h1, h2, h3, h4, h5⟩
        · refine .inl ⟨h1, fun z hz => ?_⟩
          rcases take_mem hzi hz with q | rfl
          · exact h2 z q
          · exact out
        · refine .inr ⟨t, x, y, h1, h2, h3, h4, fun z hz hin => ?_⟩
          rcases take_mem hzi hz with q | rfl
          · exact h5 z q hin
          · exact absurd hin out
      refine rd_gtup tz rfl ?_
      fail "z go"
      refine rd_ite (fun c1 => ?_) (fun c1 => ?_)
      · fail "z go"
        refine rd_ite (fun c2 => ?_) (fun c2 => ?_)
        · fail "z go"
          refine rd_ite (fun c3 => ?_) (fun c3 => ?_)
          · fail "z go"
            refine rd_ite (fun c4 => ?_) (fun c4 => ?_)
            · have inr : InR o0 o1 p0 p1 z.2.1 z.2.2 := ⟨c1, c2, c3, c4⟩
              fail "z run"
              rcases inv with ⟨rfl, h2⟩ | ⟨t, x, y, rfl, h2, h3, h4, h5⟩
              · fail "z run"
                rw [decide_eq_true rfl]
                fail "z run"
                intro t ht
                fail "z run"
                refine ⟨.ref t, _, _, rfl, s.trans (same_new ht), .inr ⟨t, _, _, rfl, upd_same, ⟨z, zin, rfl⟩, inr, fun u hu hin => ?_⟩⟩
                rcases take_mem hzi hu with q | rfl
                · exact absurd hin (h2 u q)
                · exact .inr ⟨rfl, Int.le_refl _⟩
              · fail "z run"
                rw [decide_eq_false (fun e => V.noConfusion e)]
                fail "z run"
                intro t' ht
                fail "z run"
                refine rd_ltT upd_same ((upd_ne (ne_of_none h2 ht)).trans h2) ?_
                fail "z run"
                refine rd_ite (fun lt => ?_) (fun lt => ?_)
                · fail "z run"
                  intro t2 ht2
                  fail "z run"
                  refine ⟨.ref t2, _, _, rfl, (s.trans (same_new ht)).trans (same_new ht2), .inr ⟨t2, _, _, rfl, upd_same, ⟨z, zin, rfl⟩, inr, fun u hu hin => ?_⟩⟩
                  rcases take_mem hzi hu with q | rfl
                  · exact LexLe.trans (by unfold LexLe; omega) (h5 u q hin)
                  · exact .inr ⟨rfl, Int.le_refl _⟩
                · fail "z run"
                  refine ⟨.ref t, _, _, rfl, s.trans (same_new ht), .inr ⟨t, x, y, rfl, (upd_ne (ne_of_none h2 ht)).trans h2, h3, h4, fun u hu hin => ?_⟩⟩
                  rcases take_mem hzi hu with q | rfl
                  · exact h5 u q hin
                  · unfold LexLe
                    omega
            · fail "z run"
              exact ⟨f, _, _, rfl, s, over fun ⟨_, _, _, _⟩ => by omega⟩
          · fail "z run"
            exact ⟨f, _, _, rfl, s, over fun ⟨_, _, _, _⟩ => by omega⟩
        · fail "z run"
          exact ⟨f, _, _, rfl, s, over fun ⟨_, _, _, _⟩ => by omega⟩
      · fail "z run"
        exact ⟨f, _, _, rfl, s, over fun ⟨_, _, _, _⟩ => by omega⟩
    · rintro σ H' ⟨f, va, vb, rfl, s, inv⟩
      rw [List.length_map, List.take_length] at inv
      refine ⟨_, rfl, ?_⟩
      rcases inv with ⟨rfl, h2⟩ | ⟨t, x, y, rfl, h2, h3, h4, h5⟩
      · exact k0 H' s h2
      · exact k1 t x y H' s h2 h3 h4 h5

abbrev s_alike : Stmt := (top 16)
abbrev N_alike : List Str := ["kind", "one", "other", "start", "pairs", "a", "twin", "b"]
abbrev P_alike : List Str := ["kind", "one", "other"]
theorem sc_alike : FnScope N_alike P_alike (defScope s_alike) := ⟨rfl, rfl, rfl, by decide +kernel, rfl, by decide +kernel, by decide +kernel⟩

/-- what alike and the law's own search tell: none, or the least pair -/
def Rs (m o0 o1 p0 p1 : Int) (H : Hp) (v : V) : Prop := (v = .non ∧ ∀ a b, ¬ Valid m o0 o1 p0 p1 a b) ∨
  ∃ t x y, v = .ref t ∧ H t = some (.tup [.int x, .int y]) ∧ Valid m o0 o1 p0 p1 x y ∧ ∀ a b, Valid m o0 o1 p0 p1 a b → LexLe x y a b
def spAlike (C : Addr) : Sp := fun vs H Q _ => ∃ (kd p q : Addr) (lo hi o0 o1 p0 p1 : Int), vs = [.ref kd, .ref p, .ref q] ∧ IsKind C H kd lo hi ∧ lo ≤ 0 ∧ 0 ≤ hi ∧ Span H p o0 o1 ∧ Span H q p0 p1 ∧
  ∀ v H', Same H H' → Rs (hi - lo + 1) o0 o1 p0 p1 H' v → Q v H'
theorem Same.kp {l : Addr} {H H1 H2 : Hp} (s : Same H H1) (hl : H l = none) (k : Kp l H1 H2) : Same H H2 := fun b o e => k b o (ne_of_none e hl) (s b o e)
theorem ok_alike {f C : Addr} {fd : FuncData} (F : Fun K "alike" "alike" s_alike f fd) (KT : KindT K C) (c_ch : Cal P w K mg base 3 "_check_spans" P__check_spans spCheck)
    (c_nx : Cal P w K mg base 1 "_next_like" P__next_like (spNext C)) (c_le : Cal P w K mg base 1 "_least" P__least spLeast) : FnOk P w K mg base CX0 4 f fd P_alike (spAlike C) := by
  obtain ⟨f_ch, fd_ch, G__check_spans, b__check_spans, g__check_spans, k__check_spans⟩ := c_ch
  obtain ⟨f_nx, fd_nx, G__next_like, b__next_like, g__next_like, k__next_like⟩ := c_nx
  obtain ⟨f_le, fd_le, G__least, b__least, g__least, k__least⟩ := c_le
  refine F.ok sc_alike (fun vs H Q E h => ?_) (fun cdv A outer s H vs Q E hr h => ?_)
  · obtain ⟨kd, p, q, lo, hi, o0, o1, p0, p1, rfl, _⟩ := h
    rfl
  · obtain ⟨kd, p, q, lo, hi, o0, o1, p0, p1, rfl, hk, h1, h2, hp, hq, k⟩ := h
    have hm : 0 < hi - lo + 1 := by omega
    refine ⟨_, (pss_cons (ps_expr (pe_call G__check_spans (hr.mono (by decide)) rfl g__check_spans k__check_spans b__check_spans .nil pass0 (pa_cons (pv 1) (pa_cons (pv 2) pa_nil))))
      (pss_cons (ps_set (i := 3) sc_alike.nd rfl (Or.inl rfl) (pe_call G__next_like (hr.mono (by decide)) rfl g__next_like k__next_like b__next_like .nil pass0 (pa_cons (pv 0) (pa_cons (pe_ix ix_tup (pv 1) pe_int (fun _ _ => rfl)) (pa_cons (pe_ix ix_tup (pv 2) pe_int (fun _ _ => rfl)) pa_nil)))))
      (pss_cons (ps_set (i := 4) sc_alike.nd rfl (Or.inl rfl) (pe_lst pa_nil))
      (pss_cons (ps_for PassesOwn.never rfl (pi_tup (pe_tup (pa_cons (pe_ix ix_tup (pv 1) pe_int (fun _ _ => rfl)) (pa_cons (pv 3) (pa_cons (pe_op op_add (pv 3) (pe_fld (pv 0) rfl)) pa_nil))))) (pg_name (i := 5) sc_alike.nd rfl (Or.inl rfl)) (pss_cons (ps_set (i := 6) sc_alike.nd rfl (Or.inl rfl) (pe_call G__next_like (hr.mono (by decide)) rfl g__next_like k__next_like b__next_like .nil pass0 (pa_cons (pv 0) (pa_cons (pe_ix ix_tup (pv 2) pe_int (fun _ _ => rfl)) (pa_cons (pv 5) pa_nil)))))
      (pss_one (ps_for PassesOwn.never rfl (pi_tup (pe_tup (pa_cons (pv 6) (pa_cons (pe_op op_add (pv 6) (pe_fld (pv 0) rfl)) pa_nil)))) (pg_name (i := 7) sc_alike.nd rfl (Or.inl rfl)) (pss_one (ps_if (pt_cmpR op_ne (pv 5) (pv 7) (nomark _)) (pss_one (ps_expr (pe_bm PySem.F.plainAttrs_list PySem.F.slot_list_append PySem.F.type_list_append mt_append (pv 4) (pa_cons (pe_tup (pa_cons (pv 5) (pa_cons (pv 7) pa_nil))) pa_nil)))) pss_nil))))))
      (pss_one (ps_ret (pe_call G__least (hr.mono (by decide)) rfl g__least k__least b__least .nil pass0 (pa_cons (pv 4) (pa_cons (pv 1) (pa_cons (pv 2) pa_nil)))))))))), ?_⟩
    fail "z run"
    refine ⟨p, q, o0, o1, p0, p1, rfl, hp, hq, fun H1 S1 => ?_⟩
    have ip := S1 _ _ hp.1
    have iq := S1 _ _ hq.1
    fail "z run"
    refine ⟨kd, lo, hi, o0, p0, rfl, hk.same S1, h1, h2, ?_⟩
    fail "z run"
    intro l hl
    have k2 := (hk.same S1).same (same_new (o := .lst []) hl)
    obtain ⟨dx, ek⟩ := id k2
    have ip2 := (same_new (o := .lst []) hl) _ _ ip
    have iq2 := (same_new (o := .lst []) hl) _ _ iq
    fail "z run"
    refine rd_for (rd_iT ?_)
    fail "z run"
    refine ⟨_, _, _, _, _, rfl, ek, KT.cl, KT.n_size, kf_size _ _, ?_⟩
    fail "z run"
    intro t ht
    have S2 : Same H (upd (upd H1 l (.lst [])) t (.tup ((As (hi - lo + 1) o0 p0).map V.int))) := (S1.trans (same_new hl)).trans (same_new ht)
    refine rd_iTa upd_same (for_tup (K := K) (a := t) (xs := (As (hi - lo + 1) o0 p0).map V.int) (fun i σ H' => ∃ va vt vb zs, σ = [some (.ref kd), some (.ref p), some (.ref q), some (.int (nxt (hi - lo + 1) o0 p0)), some (.ref l), va, vt, vb] ∧
        Kp l (upd (upd H1 l (.lst [])) t (.tup ((As (hi - lo + 1) o0 p0).map V.int))) H' ∧ H' l = some (.lst (List.map (fun z : Addr × Int × Int => V.ref z.1) zs)) ∧ Prs H' zs ∧ zs.length ≤ 2 * i ∧
        (∀ z ∈ zs, z.2.1 ≠ z.2.2 ∧ (hi - lo + 1) ∣ z.2.1 - z.2.2) ∧ (∀ a ∈ (As (hi - lo + 1) o0 p0).take i, ∀ b ∈ Bs (hi - lo + 1) p0 a, a ≠ b → ∃ z ∈ zs, z.2 = (a, b)))
      ⟨none, none, none, [], rfl, Kp.refl, (upd_ne (ne_of_none upd_same ht)).trans upd_same, fun z hz => (List.not_mem_nil hz).elim, Nat.zero_le _, fun z hz => (List.not_mem_nil hz).elim, fun a ha => (List.not_mem_nil ha).elim⟩ (fun i σ H' _ ⟨_, _, _, _, _, kp, _⟩ => SqT.of (kp _ _ (fun e => by rw [e, upd_same] at ht; cases ht) upd_same)) ?_ ?_)
    · rintro i x σ H' hx ⟨va, vt, vb, zs, rfl, kp, hl', prs, len, sound, full⟩
      rw [List.getElem?_map] at hx
      obtain ⟨a, ha, rfl⟩ := Option.map_eq_some_iff.mp hx
      have i3 : i < 3 := (List.getElem?_eq_some_iff.mp ha).1
      have S3 : Same H H' := fun b o e => kp b o (ne_of_none (S1 b o e) hl) (S2 b o e)
      have k3 := hk.same S3
      obtain ⟨dx3, ek3⟩ := id k3
      have iq3 := S3 _ _ hq.1
      fail "z run"
      refine ⟨kd, lo, hi, p0, a, rfl, k3, h1, h2, ?_⟩
      fail "z run"
      with_reducible refine rd_for ?_
      with_reducible refine rd_iT ?_
      fail "z run"
      refine ⟨_, _, _, _, _, rfl, ek3, KT.cl, KT.n_size, kf_size _ _, ?_⟩
      fail "z run"
      intro t2 ht2
      have nl2 : l ≠ t2 := ne_of_none hl' ht2
      refine rd_iTa upd_same (for_tup (K := K) (a := t2) (xs := (Bs (hi - lo + 1) p0 a).map V.int) (fun j σ H'' => ∃ vb zs', σ = [some (.ref kd), some (.ref p), some (.ref q), some (.int (nxt (hi - lo + 1) o0 p0)), some (.ref l), some (.int a), some (.int (nxt (hi - lo + 1) p0 a)), vb] ∧
          Kp l (upd H' t2 (.tup ((Bs (hi - lo + 1) p0 a).map V.int))) H'' ∧ H'' l = some (.lst (List.map (fun z : Addr × Int × Int => V.ref z.1) zs')) ∧ Prs H'' zs' ∧ zs'.length ≤ 2 * i + j ∧
          (∀ z ∈ zs', z.2.1 ≠ z.2.2 ∧ (hi - lo + 1) ∣ z.2.1 - z.2.2) ∧ (∀ z ∈ zs, z ∈ zs') ∧ (∀ b ∈ (Bs (hi - lo + 1) p0 a).take j, a ≠ b → ∃ z ∈ zs', z.2 = (a, b)))
        ⟨_, zs, rfl, Kp.refl, (upd_ne nl2).trans hl', prs.same (same_new ht2), by omega, sound, fun z hz => hz, fun b hb => (List.not_mem_nil hb).elim⟩ (fun i σ H' _ ⟨_, _, _, kp, _⟩ => SqT.of (kp _ _ nl2.symm upd_same)) ?_ ?_)
      · rintro j x σ H2 hx ⟨vb2, zs2, rfl, kp2, hl2, prs2, len2, sound2, sub2, full2⟩
        rw [List.getElem?_map] at hx
        obtain ⟨b, hb, rfl⟩ := Option.map_eq_some_iff.mp hx
        have j2 : j < 2 := (List.getElem?_eq_some_iff.mp hb).1
        fail "z run"
        refine rd_iteN (fun ne => ?_) (fun eq => ?_)
        · fail "z run"
          refine ⟨.inl ⟨rfl, _, SqL.of hl2⟩, ?_⟩
          fail "z run"
          intro r hr'
          have nr : l ≠ r := ne_of_none hl2 hr'
          refine ⟨l, _, _, rfl, rfl, (upd_ne nr).trans hl2, Nat.lt_of_le_of_lt (by rw [List.length_map]; exact len2) (small1000 (by omega)), ?_⟩
          refine ⟨_, zs2 ++ [(r, a, b)], rfl, ?_, ?_, ?_, ?_, ?_, ?_, ?_⟩
          · exact (kp2.new hr').put
          · rw [List.map_append]
            exact upd_same
          · intro z hz
            rcases List.mem_append.mp hz with q | q
            · have e := prs2 z q
              rw [upd_ne (fun e2 => by rw [e2, hl2] at e; cases e), upd_ne (ne_of_none e hr')]
              exact e
            · simp only [List.mem_singleton] at q
              subst q
              rw [upd_ne nr.symm]
              exact upd_same
          · simp only [List.length_append, List.length_singleton]
            omega
          · intro z hz
            rcases List.mem_append.mp hz with q | q
            · exact sound2 z q
            · simp only [List.mem_singleton] at q
              subst q
              exact ⟨fun e => ne (congrArg V.int e), Bs_dvd (List.mem_of_getElem? hb)⟩
          · exact fun z hz => List.mem_append_left _ (sub2 z hz)
          · intro c hc nc
            rcases take_mem hb hc with q | rfl
            · obtain ⟨z, hz, ez⟩ := full2 c q nc
              exact ⟨z, List.mem_append_left _ hz, ez⟩
            · exact ⟨(r, a, c), by simp, rfl⟩
        · fail "z run"
          refine ⟨_, zs2, rfl, kp2, hl2, prs2, by omega, sound2, sub2, fun c hc nc => ?_⟩
          rcases take_mem hb hc with q | rfl
          · exact full2 c q nc
          · exact absurd (V.int.inj eq) nc
      · rintro σ H2 ⟨vb2, zs2, rfl, kp2, hl2, prs2, len2, sound2, sub2, full2⟩
        rw [List.length_map, List.take_length] at full2
        refine ⟨_, _, _, zs2, rfl, fun b o nb e => kp2 b o nb ((same_new ht2) b o (kp b o nb e)), hl2, prs2, ?_, sound2, fun c hc b hb nb => ?_⟩
        · have : ((Bs (hi - lo + 1) p0 a).map V.int).length = 2 := rfl
          omega
        · rcases take_mem ha hc with q | rfl
          · obtain ⟨z, hz, ez⟩ := full c q b hb nb
            exact ⟨z, sub2 z hz, ez⟩
          · exact full2 b hb nb
    · rintro σ H' ⟨va, vt, vb, zs, rfl, kp, hl', prs, len, sound, full⟩
      have S3 : Same H H' := fun b o e => kp b o (ne_of_none (S1 b o e) hl) (S2 b o e)
      fail "z run"
      refine ⟨l, p, q, zs, o0, o1, p0, p1, rfl, hl', prs, hp.same S3, hq.same S3, fun H4 S4 no => ?_, fun t x y H4 S4 ht4 ⟨z, hz, ez⟩ inr least => ?_⟩
      · refine k _ H4 (S3.trans S4) (.inl ⟨rfl, fun a b va => ?_⟩)
        obtain ⟨a', ha', b', hb', ne, inr, _⟩ := cands hm va
        obtain ⟨z, hz, ez⟩ := full a' (by rw [List.length_map, List.take_length]; exact ha') b' hb' ne
        refine no z hz ?_
        rw [ez]
        exact inr
      · have so := sound z hz
        rw [ez] at so
        refine k _ H4 (S3.trans S4) (.inr ⟨t, x, y, rfl, ht4, ⟨inr, so⟩, fun a b va => ?_⟩)
        obtain ⟨a', ha', b', hb', ne, inr', le⟩ := cands hm va
        obtain ⟨u, hu, eu⟩ := full a' (by rw [List.length_map, List.take_length]; exact ha') b' hb' ne
        have := least u hu (by rw [eu]; exact inr')
        rw [eu] at this
        exact this.trans le
abbrev s_Kind_cut : Stmt := (inClass (top 26) 5)
abbrev N_Kind_cut : List Str := ["self", "number"]
abbrev P_Kind_cut : List Str := ["self", "number"]
theorem sc_Kind_cut : FnScope N_Kind_cut P_Kind_cut (defScope s_Kind_cut) := ⟨rfl, rfl, rfl, by decide +kernel, rfl, by decide +kernel, by decide +kernel⟩
abbrev s_greater : Stmt := (top 12)
abbrev N_greater : List Str := ["one", "other"]
abbrev P_greater : List Str := ["one", "other"]
theorem sc_greater : FnScope N_greater P_greater (defScope s_greater) := ⟨rfl, rfl, rfl, by decide +kernel, rfl, by decide +kernel, by decide +kernel⟩
abbrev s__least_turned : Stmt := (top 18)
abbrev N__least_turned : List Str := ["kind", "one", "other"]
abbrev P__least_turned : List Str := ["kind", "one", "other"]
theorem sc__least_turned : FnScope N__least_turned P__least_turned (defScope s__least_turned) := ⟨rfl, rfl, rfl, by decide +kernel, rfl, by decide +kernel, by decide +kernel⟩
abbrev s__least_against : Stmt := (top 19)
abbrev N__least_against : List Str := ["kind", "a", "other"]
abbrev P__least_against : List Str := ["kind", "a", "other"]
theorem sc__least_against : FnScope N__least_against P__least_against (defScope s__least_against) := ⟨rfl, rfl, rfl, by decide +kernel, rfl, by decide +kernel, by decide +kernel⟩
abbrev s_ordered : Stmt := (top 17)
abbrev N_ordered : List Str := ["kind", "one", "other", "pairs", "a", "b"]
abbrev P_ordered : List Str := ["kind", "one", "other"]
theorem sc_ordered : FnScope N_ordered P_ordered (defScope s_ordered) := ⟨rfl, rfl, rfl, by decide +kernel, rfl, by decide +kernel, by decide +kernel⟩

theorem kf_no (lo hi : Int) {m : Str} (h1 : ¬ m = "size") (h2 : ¬ m = "high") (h3 : ¬ m = "low") : (kf lo hi).lookup m = none := by
  unfold kf
  rw [lookup_putF, if_neg h1, lookup_putF, if_neg h2, lookup_putF, if_neg h3]
  rfl
theorem rd_meth {C : Addr} {m : Str} {sp : Sp} {E : XK} {ta : TE} {tA : TA} {σ : L2.St} {H : Hp} {Q : VK} (k : ta σ H fun x H1 => ∃ a dx fs, x = .ref a ∧ H1 a = some (.ins C dx fs) ∧ fs.lookup m = none ∧ tA σ H1 fun vs H2 => sp (x :: (vs ++ [])) H2 Q E) : tMeth C m sp [] E ta tA σ H Q := k
def spCutM (C : Addr) : Sp := fun vs H Q _ => ∃ (kd : Addr) (lo hi n : Int), vs = [.ref kd, .int n] ∧ IsKind C H kd lo hi ∧ lo ≤ 0 ∧ 0 ≤ hi ∧ Q (.int (lo + pl lo (hi - lo + 1) n)) H
def CalM (P : Program) (w : World) (K : PySem.W.Frag) (mg : Str → Option Value) (base : Heap) (C : Addr) (m : Str) (ps : List Str) (sp : Sp) : Prop :=
  ∃ (f : Addr) (fd : FuncData), Meth K C m f ∧ FnOk P w K mg base CX0 2 f fd ps sp ∧ Binds K fd ps []
theorem ok_cutM {f C : Addr} {fd : FuncData} (F : Fun K "cut" "Kind.cut" s_Kind_cut f fd) (KT : KindT K C) (c_is : Cal P w K mg base 1 "is_integer" P_is_integer spIsInt) : FnOk P w K mg base CX0 2 f fd P_Kind_cut (spCutM C) := by
  obtain ⟨f_is, fd_is, G_is_integer, b_is_integer, g_is_integer, k_is_integer⟩ := c_is
  refine F.ok sc_Kind_cut (fun vs H Q E h => ?_) (fun cdv A outer s H vs Q E hr h => ?_)
  · obtain ⟨kd, lo, hi, n, rfl, _⟩ := h
    rfl
  · obtain ⟨kd, lo, hi, n, rfl, ⟨dx, ek⟩, h1, h2, k⟩ := h
    refine ⟨_, (pss_cons (ps_if (pt_not (pt_val (pe_call G_is_integer (hr.mono (by decide)) rfl g_is_integer k_is_integer b_is_integer .nil pass0 (pa_cons (pv 1) pa_nil)))) (pss_one ps_never) pss_nil)
      (pss_one (ps_ret (pe_op op_add (pe_fld (pv 0) rfl) (pe_op op_mod (pe_op op_sub (pv 1) (pe_fld (pv 0) rfl)) (pe_fld (pv 0) rfl)))))), ?_⟩
    fail "z run"
    refine ⟨_, rfl, .int n, ?_⟩
    fail "z run"
    refine iteF ?_
    fail "z run"
    refine ⟨_, _, _, _, _, rfl, ek, KT.cl, KT.n_low, kf_low _ _, ?_⟩
    fail "z run"
    refine ⟨_, _, _, _, _, rfl, ek, KT.cl, KT.n_low, kf_low _ _, ?_⟩
    fail "z run"
    refine ⟨_, _, _, _, _, rfl, ek, KT.cl, KT.n_size, kf_size _ _, ?_⟩
    fail "z run"
    exact k
def spGreater : Sp := fun vs H Q _ => ∃ a b : Int, vs = [.int a, .int b] ∧ Q (.int (if a ≥ b then a else b)) H
theorem ok_greater {f : Addr} {fd : FuncData} (F : Fun K "greater" "greater" s_greater f fd) : FnOk P w K mg base CX0 1 f fd P_greater spGreater := by
  refine F.ok sc_greater (fun vs H Q E h => ?_) (fun cdv A outer s H vs Q E hr h => ?_)
  · obtain ⟨a, b, rfl, _⟩ := h
    rfl
  · obtain ⟨a, b, rfl, k⟩ := h
    refine ⟨_, (pss_one (ps_ret (pe_ifExp (pt_cmpR op_ge (pv 0) (pv 1) (nomark _)) (pv 0) (pv 1)))), ?_⟩
    fail "z run"
    refine rd_ite (fun c => ?_) (fun c => ?_)
    · fail "z run"
      rw [if_pos c] at k
      exact k
    · fail "z run"
      rw [if_neg c] at k
      exact k
def spTurned (C : Addr) : Sp := fun vs H Q _ => ∃ (kd p q : Addr) (lo hi o0 o1 p0 p1 : Int), vs = [.ref kd, .ref p, .ref q] ∧ IsKind C H kd lo hi ∧ lo ≤ 0 ∧ 0 ≤ hi ∧ Span H p o0 o1 ∧ Span H q p0 p1 ∧
  ∀ t H', Same H H' → H' t = some (.tup ((As2 lo (hi - lo + 1) o0 p0).map V.int)) → Q (.ref t) H'
theorem ok_turned {f C : Addr} {fd : FuncData} (F : Fun K "_least_turned" "_least_turned" s__least_turned f fd) (KT : KindT K C) (c_nx : Cal P w K mg base 1 "_next_like" P__next_like (spNext C)) (c_gr : Cal P w K mg base 1 "greater" P_greater spGreater) :
    FnOk P w K mg base CX0 2 f fd P__least_turned (spTurned C) := by
  obtain ⟨f_nx, fd_nx, G__next_like, b__next_like, g__next_like, k__next_like⟩ := c_nx
  obtain ⟨f_gr, fd_gr, G_greater, b_greater, g_greater, k_greater⟩ := c_gr
  refine F.ok sc__least_turned (fun vs H Q E h => ?_) (fun cdv A outer s H vs Q E hr h => ?_)
  · obtain ⟨kd, p, q, lo, hi, o0, o1, p0, p1, rfl, _⟩ := h
    rfl
  · obtain ⟨kd, p, q, lo, hi, o0, o1, p0, p1, rfl, hk, h1, h2, ⟨hp, _⟩, ⟨hq, _⟩, k⟩ := h
    obtain ⟨dx, ek⟩ := id hk
    refine ⟨_, (pss_one (ps_ret (pe_tup (pa_cons (pe_ix ix_tup (pv 1) pe_int (fun _ _ => rfl)) (pa_cons (pe_call G__next_like (hr.mono (by decide)) rfl g__next_like k__next_like b__next_like .nil pass0 (pa_cons (pv 0) (pa_cons (pe_ix ix_tup (pv 1) pe_int (fun _ _ => rfl)) (pa_cons (pe_ix ix_tup (pv 2) pe_int (fun _ _ => rfl)) pa_nil)))) (pa_cons (pe_call G__next_like (hr.mono (by decide)) rfl g__next_like k__next_like b__next_like .nil pass0 (pa_cons (pv 0) (pa_cons (pe_call G_greater (hr.mono (by decide)) rfl g_greater k_greater b_greater .nil pass0 (pa_cons (pe_ix ix_tup (pv 1) pe_int (fun _ _ => rfl)) (pa_cons (pe_op op_add (pe_ix ix_tup (pv 2) pe_int (fun _ _ => rfl)) pe_int) pa_nil))) (pa_cons (pe_fld (pv 0) rfl) pa_nil)))) pa_nil)))))), ?_⟩
    fail "z run"
    refine ⟨kd, lo, hi, o0, p0, rfl, hk, h1, h2, ?_⟩
    fail "z run"
    refine ⟨o0, p0 + 1, rfl, ?_⟩
    fail "z run"
    refine ⟨_, _, _, _, _, rfl, ek, KT.cl, KT.n_low, kf_low _ _, ?_⟩
    fail "z run"
    refine ⟨kd, lo, hi, _, _, rfl, hk, h1, h2, ?_⟩
    fail "z run"
    intro t ht
    exact k t _ (same_new ht) upd_same
def spAgainst (C : Addr) : Sp := fun vs H Q _ => ∃ (kd q : Addr) (lo hi a p0 p1 : Int), vs = [.ref kd, .int a, .ref q] ∧ IsKind C H kd lo hi ∧ lo ≤ 0 ∧ 0 ≤ hi ∧ Span H q p0 p1 ∧
  ∀ t H', Same H H' → H' t = some (.tup ((Bs2 lo (hi - lo + 1) p0 a).map V.int)) → Q (.ref t) H'
theorem ok_against {f C : Addr} {fd : FuncData} (F : Fun K "_least_against" "_least_against" s__least_against f fd) (KT : KindT K C) (c_nx : Cal P w K mg base 1 "_next_like" P__next_like (spNext C)) (c_gr : Cal P w K mg base 1 "greater" P_greater spGreater) :
    FnOk P w K mg base CX0 2 f fd P__least_against (spAgainst C) := by
  obtain ⟨f_nx, fd_nx, G__next_like, b__next_like, g__next_like, k__next_like⟩ := c_nx
  obtain ⟨f_gr, fd_gr, G_greater, b_greater, g_greater, k_greater⟩ := c_gr
  refine F.ok sc__least_against (fun vs H Q E h => ?_) (fun cdv A outer s H vs Q E hr h => ?_)
  · obtain ⟨kd, q, lo, hi, a, p0, p1, rfl, _⟩ := h
    rfl
  · obtain ⟨kd, q, lo, hi, a, p0, p1, rfl, hk, h1, h2, ⟨hq, _⟩, k⟩ := h
    obtain ⟨dx, ek⟩ := id hk
    refine ⟨_, (pss_one (ps_ret (pe_tup (pa_cons (pe_ix ix_tup (pv 2) pe_int (fun _ _ => rfl)) (pa_cons (pe_call G__next_like (hr.mono (by decide)) rfl g__next_like k__next_like b__next_like .nil pass0 (pa_cons (pv 0) (pa_cons (pe_ix ix_tup (pv 2) pe_int (fun _ _ => rfl)) (pa_cons (pe_op op_add (pv 1) pe_int) pa_nil)))) (pa_cons (pe_call G__next_like (hr.mono (by decide)) rfl g__next_like k__next_like b__next_like .nil pass0 (pa_cons (pv 0) (pa_cons (pe_call G_greater (hr.mono (by decide)) rfl g_greater k_greater b_greater .nil pass0 (pa_cons (pe_ix ix_tup (pv 2) pe_int (fun _ _ => rfl)) (pa_cons (pe_op op_add (pv 1) pe_int) pa_nil))) (pa_cons (pe_fld (pv 0) rfl) pa_nil)))) pa_nil)))))), ?_⟩
    fail "z run"
    refine ⟨kd, lo, hi, p0, a + 1, rfl, hk, h1, h2, ?_⟩
    fail "z run"
    refine ⟨p0, a + 1, rfl, ?_⟩
    fail "z run"
    refine ⟨_, _, _, _, _, rfl, ek, KT.cl, KT.n_low, kf_low _ _, ?_⟩
    fail "z run"
    refine ⟨kd, lo, hi, _, _, rfl, hk, h1, h2, ?_⟩
    fail "z run"
    intro t ht
    exact k t _ (same_new ht) upd_same
/-- what ordered and the law's own search tell: none, or the least pair -/
def Turn (lo m o0 o1 p0 p1 a b : Int) : Prop := InR o0 o1 p0 p1 a b ∧ Wr lo m a b
def RsO (lo m o0 o1 p0 p1 : Int) (H : Hp) (v : V) : Prop := (v = .non ∧ ∀ a b, ¬ Turn lo m o0 o1 p0 p1 a b) ∨
  ∃ t x y, v = .ref t ∧ H t = some (.tup [.int x, .int y]) ∧ Turn lo m o0 o1 p0 p1 x y ∧ ∀ a b, Turn lo m o0 o1 p0 p1 a b → LexLe x y a b
def spOrdered (C : Addr) : Sp := fun vs H Q _ => ∃ (kd p q : Addr) (lo hi o0 o1 p0 p1 : Int), vs = [.ref kd, .ref p, .ref q] ∧ IsKind C H kd lo hi ∧ lo ≤ 0 ∧ 0 ≤ hi ∧ Span H p o0 o1 ∧ Span H q p0 p1 ∧
  ∀ v H', Same H H' → RsO lo (hi - lo + 1) o0 o1 p0 p1 H' v → Q v H'
theorem wr_bl {lo m a b : Int} : V.bl (decide (lo + pl lo m a < lo + pl lo m b)) = V.bl (decide (a < b)) ↔ ¬ Wr lo m a b := by
  unfold Wr
  constructor
  · intro h c
    refine c ?_
    have e := V.bl.inj h
    constructor
    · intro q
      rw [decide_eq_true (show lo + pl lo m a < lo + pl lo m b by omega)] at e
      exact of_decide_eq_true e.symm
    · intro q
      rw [decide_eq_true q] at e
      have := of_decide_eq_true e
      omega
  · intro h
    have i := Classical.not_not.mp h
    by_cases q : a < b
    · have := i.mpr q
      rw [decide_eq_true q, decide_eq_true (show lo + pl lo m a < lo + pl lo m b by omega)]
    · have : ¬ pl lo m a < pl lo m b := fun z => q (i.mp z)
      rw [decide_eq_false q, decide_eq_false (show ¬ lo + pl lo m a < lo + pl lo m b by omega)]
theorem ok_ordered {f C : Addr} {fd : FuncData} (F : Fun K "ordered" "ordered" s_ordered f fd) (KT : KindT K C) (c_ch : Cal P w K mg base 3 "_check_spans" P__check_spans spCheck)
    (c_tu : Cal P w K mg base 2 "_least_turned" P__least_turned (spTurned C)) (c_ag : Cal P w K mg base 2 "_least_against" P__least_against (spAgainst C)) (c_le : Cal P w K mg base 1 "_least" P__least spLeast)
    (c_cut : CalM P w K mg base C "cut" P_Kind_cut (spCutM C)) : FnOk P w K mg base CX0 4 f fd P_ordered (spOrdered C) := by
  obtain ⟨f_ch, fd_ch, G__check_spans, b__check_spans, g__check_spans, k__check_spans⟩ := c_ch
  obtain ⟨f_tu, fd_tu, G__least_turned, b__least_turned, g__least_turned, k__least_turned⟩ := c_tu
  obtain ⟨f_ag, fd_ag, G__least_against, b__least_against, g__least_against, k__least_against⟩ := c_ag
  obtain ⟨f_le, fd_le, G__least, b__least, g__least, k__least⟩ := c_le
  obtain ⟨f_cut, fd_cut, m_cut, G_Kind_cut, b_Kind_cut⟩ := c_cut
  refine F.ok sc_ordered (fun vs H Q E h => ?_) (fun cdv A outer s H vs Q E hr h => ?_)
  · obtain ⟨kd, p, q, lo, hi, o0, o1, p0, p1, rfl, _⟩ := h
    rfl
  · obtain ⟨kd, p, q, lo, hi, o0, o1, p0, p1, rfl, hk, h1, h2, hp, hq, k⟩ := h
    have hm : 0 < hi - lo + 1 := by omega
    have noc : (kf lo hi).lookup ("cut" : Str) = none := kf_no lo hi (by decide +kernel) (by decide +kernel) (by decide +kernel)
    refine ⟨_, (pss_cons (ps_expr (pe_call G__check_spans (hr.mono (by decide)) rfl g__check_spans k__check_spans b__check_spans .nil pass0 (pa_cons (pv 1) (pa_cons (pv 2) pa_nil))))
      (pss_cons (ps_set (i := 3) sc_ordered.nd rfl (Or.inl rfl) (pe_lst pa_nil))
      (pss_cons (ps_for PassesOwn.never rfl (pi_tup (pe_call G__least_turned (hr.mono (by decide)) rfl g__least_turned k__least_turned b__least_turned .nil pass0 (pa_cons (pv 0) (pa_cons (pv 1) (pa_cons (pv 2) pa_nil))))) (pg_name (i := 4) sc_ordered.nd rfl (Or.inl rfl)) (pss_one (ps_for PassesOwn.never rfl (pi_tup (pe_call G__least_against (hr.mono (by decide)) rfl g__least_against k__least_against b__least_against .nil pass0 (pa_cons (pv 0) (pa_cons (pv 4) (pa_cons (pv 2) pa_nil))))) (pg_name (i := 5) sc_ordered.nd rfl (Or.inl rfl)) (pss_one (ps_if (pt_cmpR op_ne (pe_cmpR op_lt (pe_meth (pv 0) KT.cl m_cut G_Kind_cut (hr.mono (by decide)) b_Kind_cut .nil pass0 (pa_cons (pv 4) pa_nil)) (pe_meth (pv 0) KT.cl m_cut G_Kind_cut (hr.mono (by decide)) b_Kind_cut .nil pass0 (pa_cons (pv 5) pa_nil)) (nomark _)) (pe_cmpR op_lt (pv 4) (pv 5) (nomark _)) (nomark _)) (pss_one (ps_expr (pe_bm PySem.F.plainAttrs_list PySem.F.slot_list_append PySem.F.type_list_append mt_append (pv 3) (pa_cons (pe_tup (pa_cons (pv 4) (pa_cons (pv 5) pa_nil))) pa_nil)))) pss_nil)))))
      (pss_one (ps_ret (pe_call G__least (hr.mono (by decide)) rfl g__least k__least b__least .nil pass0 (pa_cons (pv 3) (pa_cons (pv 1) (pa_cons (pv 2) pa_nil))))))))), ?_⟩
    fail "z run"
    refine ⟨p, q, o0, o1, p0, p1, rfl, hp, hq, fun H1 S1 => ?_⟩
    fail "z run"
    intro l hl
    have Sl : Same H (upd H1 l (.lst [])) := S1.trans (same_new hl)
    fail "z run"
    with_reducible refine rd_for ?_
    with_reducible refine rd_iT ?_
    fail "z run"
    refine ⟨kd, p, q, lo, hi, o0, o1, p0, p1, rfl, hk.same Sl, h1, h2, hp.same Sl, hq.same Sl, fun t Ht St ht => ?_⟩
    have S2 : Same H Ht := Sl.trans St
    have hlt : Ht l = some (.lst []) := St _ _ upd_same
    refine rd_iTa ht (for_tup (K := K) (a := t) (xs := (As2 lo (hi - lo + 1) o0 p0).map V.int) (fun i σ H' => ∃ va vb zs, σ = [some (.ref kd), some (.ref p), some (.ref q), some (.ref l), va, vb] ∧
        Kp l Ht H' ∧ H' l = some (.lst (List.map (fun z : Addr × Int × Int => V.ref z.1) zs)) ∧ Prs H' zs ∧ zs.length ≤ 3 * i ∧
        (∀ z ∈ zs, Wr lo (hi - lo + 1) z.2.1 z.2.2) ∧ (∀ a ∈ (As2 lo (hi - lo + 1) o0 p0).take i, ∀ b ∈ Bs2 lo (hi - lo + 1) p0 a, Wr lo (hi - lo + 1) a b → ∃ z ∈ zs, z.2 = (a, b)))
      ⟨none, none, [], rfl, Kp.refl, hlt, fun z hz => (List.not_mem_nil hz).elim, Nat.zero_le _, fun z hz => (List.not_mem_nil hz).elim, fun a ha => (List.not_mem_nil ha).elim⟩ (fun i σ H' _ ⟨_, _, _, _, kp, _⟩ => SqT.of (kp _ _ (fun e => by rw [e, hlt] at ht; cases ht) ht)) ?_ ?_)
    · rintro i x σ H' hx ⟨va, vb, zs, rfl, kp, hl', prs, len, sound, full⟩
      rw [List.getElem?_map] at hx
      obtain ⟨a, ha, rfl⟩ := Option.map_eq_some_iff.mp hx
      have i3 : i < 3 := (List.getElem?_eq_some_iff.mp ha).1
      have S3 : Same H H' := fun b o e => kp b o (ne_of_none (S1 b o e) hl) (S2 b o e)
      fail "z run"
      with_reducible refine rd_for ?_
      with_reducible refine rd_iT ?_
      fail "z run"
      refine ⟨kd, q, lo, hi, a, p0, p1, rfl, hk.same S3, h1, h2, hq.same S3, fun t2 H2t S2t ht2 => ?_⟩
      have hl2t := S2t _ _ hl'
      have nl2 : l ≠ t2 := fun e => by rw [e, ht2] at hl2t; cases hl2t
      refine rd_iTa ht2 (for_tup (K := K) (a := t2) (xs := (Bs2 lo (hi - lo + 1) p0 a).map V.int) (fun j σ H'' => ∃ vb zs', σ = [some (.ref kd), some (.ref p), some (.ref q), some (.ref l), some (.int a), vb] ∧
          Kp l H2t H'' ∧ H'' l = some (.lst (List.map (fun z : Addr × Int × Int => V.ref z.1) zs')) ∧ Prs H'' zs' ∧ zs'.length ≤ 3 * i + j ∧
          (∀ z ∈ zs', Wr lo (hi - lo + 1) z.2.1 z.2.2) ∧ (∀ z ∈ zs, z ∈ zs') ∧ (∀ b ∈ (Bs2 lo (hi - lo + 1) p0 a).take j, Wr lo (hi - lo + 1) a b → ∃ z ∈ zs', z.2 = (a, b)))
        ⟨_, zs, rfl, Kp.refl, hl2t, prs.same S2t, by omega, sound, fun z hz => hz, fun b hb => (List.not_mem_nil hb).elim⟩ (fun i σ H' _ ⟨_, _, _, kp, _⟩ => SqT.of (kp _ _ nl2.symm ht2)) ?_ ?_)
      · rintro j x σ H2 hx ⟨vb2, zs2, rfl, kp2, hl2, prs2, len2, sound2, sub2, full2⟩
        rw [List.getElem?_map] at hx
        obtain ⟨b, hb, rfl⟩ := Option.map_eq_some_iff.mp hx
        have j2 : j < 3 := (List.getElem?_eq_some_iff.mp hb).1
        have k2 : IsKind C H2 kd lo hi := by
          obtain ⟨dx, e⟩ := hk.same (S3.trans S2t)
          exact ⟨dx, kp2 _ _ (fun z => by rw [z, hl2t] at e; cases e) e⟩
        obtain ⟨dx, ek⟩ := id k2
        fail "z run"
        with_reducible refine rd_meth ?_
        fail "z run"
        refine ⟨kd, dx, _, rfl, ek, noc, ?_⟩
        fail "z run"
        refine ⟨kd, lo, hi, a, rfl, k2, h1, h2, ?_⟩
        with_reducible refine rd_meth ?_
        fail "z run"
        refine ⟨kd, dx, _, rfl, ek, noc, ?_⟩
        fail "z run"
        refine ⟨kd, lo, hi, b, rfl, k2, h1, h2, ?_⟩
        fail "z run"
        refine rd_iteN (fun ne => ?_) (fun eq => ?_)
        · have wr : Wr lo (hi - lo + 1) a b := Classical.byContradiction fun z => ne (wr_bl.mpr z)
          fail "z run"
          refine ⟨.inl ⟨rfl, _, SqL.of hl2⟩, ?_⟩
          fail "z run"
          intro r hr'
          have nr : l ≠ r := ne_of_none hl2 hr'
          refine ⟨l, _, _, rfl, rfl, (upd_ne nr).trans hl2, Nat.lt_of_le_of_lt (by rw [List.length_map]; exact len2) (small1000 (by omega)), ?_⟩
          refine ⟨_, zs2 ++ [(r, a, b)], rfl, ?_, ?_, ?_, ?_, ?_, ?_, ?_⟩
          · exact (kp2.new hr').put
          · rw [List.map_append]
            exact upd_same
          · intro z hz
            rcases List.mem_append.mp hz with q | q
            · have e := prs2 z q
              rw [upd_ne (fun e2 => by rw [e2, hl2] at e; cases e), upd_ne (ne_of_none e hr')]
              exact e
            · simp only [List.mem_singleton] at q
              subst q
              rw [upd_ne nr.symm]
              exact upd_same
          · simp only [List.length_append, List.length_singleton]
            omega
          · intro z hz
            rcases List.mem_append.mp hz with q | q
            · exact sound2 z q
            · simp only [List.mem_singleton] at q
              subst q
              exact wr
          · exact fun z hz => List.mem_append_left _ (sub2 z hz)
          · intro c hc nc
            rcases take_mem hb hc with q | rfl
            · obtain ⟨z, hz, ez⟩ := full2 c q nc
              exact ⟨z, List.mem_append_left _ hz, ez⟩
            · exact ⟨(r, a, c), by simp, rfl⟩
        · fail "z run"
          refine ⟨_, zs2, rfl, kp2, hl2, prs2, by omega, sound2, sub2, fun c hc nc => ?_⟩
          rcases take_mem hb hc with q | rfl
          · exact full2 c q nc
          · exact absurd nc (wr_bl.mp eq)
      · rintro σ H2 ⟨vb2, zs2, rfl, kp2, hl2, prs2, len2, sound2, sub2, full2⟩
        rw [List.length_map, List.take_length] at full2
        refine ⟨_, _, zs2, rfl, fun b o nb e => kp2 b o nb (S2t b o (kp b o nb e)), hl2, prs2, ?_, sound2, fun c hc b hb nb => ?_⟩
        · have : ((Bs2 lo (hi - lo + 1) p0 a).map V.int).length = 3 := rfl
          omega
        · rcases take_mem ha hc with q | rfl
          · obtain ⟨z, hz, ez⟩ := full c q b hb nb
            exact ⟨z, sub2 z hz, ez⟩
          · exact full2 b hb nb
    · rintro σ H' ⟨va, vb, zs, rfl, kp, hl', prs, len, sound, full⟩
      have S3 : Same H H' := fun b o e => kp b o (ne_of_none (S1 b o e) hl) (S2 b o e)
      fail "z run"
      refine ⟨l, p, q, zs, o0, o1, p0, p1, rfl, hl', prs, hp.same S3, hq.same S3, fun H4 S4 no => ?_, fun t x y H4 S4 ht4 ⟨z, hz, ez⟩ inr least => ?_⟩
      · refine k _ H4 (S3.trans S4) (.inl ⟨rfl, fun a b va => ?_⟩)
        obtain ⟨a', ha', b', hb', ne, inr, _⟩ := cands2 hm va.1 va.2
        obtain ⟨z, hz, ez⟩ := full a' (by rw [List.length_map, List.take_length]; exact ha') b' hb' ne
        refine no z hz ?_
        rw [ez]
        exact inr
      · have so := sound z hz
        rw [ez] at so
        refine k _ H4 (S3.trans S4) (.inr ⟨t, x, y, rfl, ht4, ⟨inr, so⟩, fun a b va => ?_⟩)
        obtain ⟨a', ha', b', hb', ne, inr', le⟩ := cands2 hm va.1 va.2
        obtain ⟨u, hu, eu⟩ := full a' (by rw [List.length_map, List.take_length]; exact ha') b' hb' ne
        have := least u hu (by rw [eu]; exact inr')
        rw [eu] at this
        exact this.trans le
end
/-! ### small data, its text -/
structure Sm (k n : Nat) (d : PyData) : Prop where
  sh : d.showable = true
  nd : d.hasDict = false
  cl : d.canLay0 = true
  ls : d.leavesShort 250 = true
  wt : d.weight ≤ n
  dp : d.depth ≤ k
structure SmAll (k n : Nat) (ds : List PyData) : Prop where
  sh : PyData.showableAll ds = true
  nd : PyData.hasDictAll ds = false
  cl : PyData.canLayAll0 ds = true
  ls : PyData.leavesShortAll 250 ds = true
  wt : PyData.weightAll ds ≤ n
  dp : PyData.depthAll ds ≤ k
theorem sm_none {k : Nat} : Sm k 0 .none := ⟨by simp [PyData.showable], by simp [PyData.hasDict], by simp [PyData.canLay0], by simp [PyData.leavesShort], by simp [PyData.weight], by simp [PyData.depth]⟩
theorem sm_bool {k : Nat} (b : Bool) : Sm k 0 (.bool b) := ⟨by simp [PyData.showable], by simp [PyData.hasDict], by simp [PyData.canLay0], by simp [PyData.leavesShort], by simp [PyData.weight], by simp [PyData.depth]⟩
theorem log_of {i : Int} (h1 : -(2 ^ 200) < i) (h2 : i < 2 ^ 200) : i.natAbs.log2 < 200 := PySem.Flt.log2_lt_of (by decide) (by omega)
theorem sm_int {k : Nat} {i : Int} (h1 : -(2 ^ 200) < i) (h2 : i < 2 ^ 200) : Sm k 201 (.int i) := by
  have l := log_of h1 h2
  have t := int_text_length_le (k := 200) (by decide) l
  refine ⟨by simp only [PyData.showable, decide_eq_true_eq]; omega, by simp [PyData.hasDict], by simp [PyData.canLay0], ?_, ?_, by simp [PyData.depth]⟩
  · simp only [PyData.leavesShort, decide_eq_true_eq]
    show (Str.ofString (toString i)).length ≤ 250
    rw [PySem.ofString_length]
    omega
  · simp only [PyData.weight]
    split <;> omega
theorem sm_nil {k : Nat} : SmAll k 0 [] := ⟨by simp [PyData.showableAll], by simp [PyData.hasDictAll], by simp [PyData.canLayAll0], by simp [PyData.leavesShortAll], by simp [PyData.weightAll], by simp [PyData.depthAll]⟩
theorem sm_cons {k a b : Nat} {d : PyData} {ds : List PyData} (h : Sm k a d) (t : SmAll k b ds) : SmAll k (a + 1 + b) (d :: ds) := by
  refine ⟨by simp [PyData.showableAll, h.sh, t.sh], by simp [PyData.hasDictAll, h.nd, t.nd], by simp [PyData.canLayAll0, h.cl, t.cl], by simp [PyData.leavesShortAll, h.ls, t.ls], ?_, ?_⟩
  · have := h.wt
    have := t.wt
    simp only [PyData.weightAll]
    omega
  · have := h.dp
    have := t.dp
    simp only [PyData.depthAll]
    omega
theorem sm_list {k n : Nat} {ds : List PyData} (t : SmAll k n ds) : Sm (k + 1) n (.list ds) :=
  ⟨by simp [PyData.showable, t.sh], by simp [PyData.hasDict, t.nd], by simp [PyData.canLay0, t.cl], by simp [PyData.leavesShort, t.ls], by simp [PyData.weight, t.wt], by have := t.dp; simp only [PyData.depth]; omega⟩
theorem sm_tup {k n : Nat} {ds : List PyData} (t : SmAll k n ds) : Sm (k + 1) n (.tuple ds) :=
  ⟨by simp [PyData.showable, t.sh], by simp [PyData.hasDict, t.nd], by simp [PyData.canLay0, t.cl], by simp [PyData.leavesShort, t.ls], by simp [PyData.weight, t.wt], by have := t.dp; simp only [PyData.depth]; omega⟩
theorem Sm.text {k n : Nat} {d : PyData} (h : Sm k n d) (hn : n ≤ 50000) : d.shown.length ≤ sizeLine := by
  have e := PyData.shown_le 250 (by decide) d h.ls
  have w := h.wt
  rw [sizeLine_eq]
  omega
theorem Sm.shaped {k n : Nat} {d : PyData} (h : Sm k n d) (hk : k ≤ 60) : SeqAt.shaped d = true := by
  have := h.dp
  unfold SeqAt.shaped
  rw [h.cl, Bool.true_and]
  exact decide_eq_true (by omega)
theorem rd_repr {K : PySem.W.Frag} {H : Hp} {Q : VK} {v : V} {d : PyData} {k n : Nat} (h : Dp K H v d) (s : Sm k n d) (hk : k ≤ 60) (hn : n ≤ 50000) (q : Q (.str d.shown) H) : rReprD K [v] H Q := by
  refine ⟨v, d, rfl, h, s.sh, s.nd, by have := s.dp; omega, s.text hn, fun i e => ?_, q⟩
  subst e
  cases h
  have z := s.sh
  simp only [PyData.showable, decide_eq_true_eq] at z
  exact z
theorem rd_neD {K : PySem.W.Frag} {H : Hp} {Q : VK} {x y : V} {d e : PyData} {k n k' n' : Nat} (h : Dp K H x d) (h' : Dp K H y e) (s : Sm k n d) (s' : Sm k' n' e) (hk : k ≤ 60) (hk' : k' ≤ 60) (q : Q (.bl (!PyData.eqv d e)) H) : rNeD K x y H Q :=
  ⟨d, e, h, h', s.shaped hk, s'.shaped hk', q⟩
theorem rd_eqD {K : PySem.W.Frag} {H : Hp} {Q : VK} {x y : V} {d e : PyData} {k n k' n' : Nat} (h : Dp K H x d) (h' : Dp K H y e) (s : Sm k n d) (s' : Sm k' n' e) (hk : k ≤ 60) (hk' : k' ≤ 60) (q : Q (.bl (PyData.eqv d e)) H) : rEqD K x y H Q :=
  ⟨d, e, h, h', s.shaped hk, s'.shaped hk', q⟩
theorem Sm.up {k n k' n' : Nat} {d : PyData} (h : Sm k n d) (hk : k ≤ k') (hn : n ≤ n') : Sm k' n' d := ⟨h.sh, h.nd, h.cl, h.ls, Nat.le_trans h.wt hn, Nat.le_trans h.dp hk⟩
section
variable {P : Program} {w : World} {K : PySem.W.Frag} {mg : Str → Option Value} {base : Heap}
/-! ### k07: what the law draws, what it asks of a pair -/
abbrev s__law_kind_ends : Stmt := (top 32)
abbrev N__law_kind_ends : List Str := ["_law_pot"]
abbrev P__law_kind_ends : List Str := ["_law_pot"]
theorem sc__law_kind_ends : FnScope N__law_kind_ends P__law_kind_ends (defScope s__law_kind_ends) := ⟨rfl, rfl, rfl, by decide +kernel, rfl, by decide +kernel, by decide +kernel⟩
abbrev s__law_span : Stmt := (top 33)
abbrev N__law_span : List Str := ["_law_pot", "_law_low", "_law_high", "_law_size", "_law_first", "_law_many"]
abbrev P__law_span : List Str := ["_law_pot", "_law_low", "_law_high"]
theorem sc__law_span : FnScope N__law_span P__law_span (defScope s__law_span) := ⟨rfl, rfl, rfl, by decide +kernel, rfl, by decide +kernel, by decide +kernel⟩
abbrev s__law_breaks : Stmt := (top 34)
abbrev N__law_breaks : List Str := ["_law_kind", "_law_is_order", "_law_pair", "_law_a", "_law_b", "_law_cuts"]
abbrev P__law_breaks : List Str := ["_law_kind", "_law_is_order", "_law_pair"]
theorem sc__law_breaks : FnScope N__law_breaks P__law_breaks (defScope s__law_breaks) := ⟨rfl, rfl, rfl, by decide +kernel, rfl, by decide +kernel, by decide +kernel⟩
abbrev s__law_told : Stmt := (top 35)
abbrev N__law_told : List Str := ["_law_kind", "_law_is_order", "_law_one", "_law_other"]
abbrev P__law_told : List Str := ["_law_kind", "_law_is_order", "_law_one", "_law_other"]
theorem sc__law_told : FnScope N__law_told P__law_told (defScope s__law_told) := ⟨rfl, rfl, rfl, by decide +kernel, rfl, by decide +kernel, by decide +kernel⟩
abbrev s__law_is_in : Stmt := (top 36)
abbrev N__law_is_in : List Str := ["_law_span_here", "_law_number"]
abbrev P__law_is_in : List Str := ["_law_span_here", "_law_number"]
theorem sc__law_is_in : FnScope N__law_is_in P__law_is_in (defScope s__law_is_in) := ⟨rfl, rfl, rfl, by decide +kernel, rfl, by decide +kernel, by decide +kernel⟩

def Bf : Bool → Int → Int → Int → Int → Prop
  | true, lo, m, a, b => Wr lo m a b
  | false, _, m, a, b => a ≠ b ∧ m ∣ a - b
def Gd (f : Bool) (lo m o0 o1 p0 p1 a b : Int) : Prop := InR o0 o1 p0 p1 a b ∧ Bf f lo m a b
def RsG (f : Bool) (lo m o0 o1 p0 p1 : Int) (H : Hp) (v : V) : Prop := (v = .non ∧ ∀ a b, ¬ Gd f lo m o0 o1 p0 p1 a b) ∨
  ∃ t x y, v = .ref t ∧ H t = some (.tup [.int x, .int y]) ∧ Gd f lo m o0 o1 p0 p1 x y ∧ ∀ a b, Gd f lo m o0 o1 p0 p1 a b → LexLe x y a b
theorem RsG.same {f : Bool} {lo m o0 o1 p0 p1 : Int} {H H' : Hp} {v : V} (h : RsG f lo m o0 o1 p0 p1 H v) (s : Same H H') : RsG f lo m o0 o1 p0 p1 H' v := by
  rcases h with h | ⟨t, x, y, e, ht, va, le⟩
  · exact .inl h
  · exact .inr ⟨t, x, y, e, s _ _ ht, va, le⟩
def spTold (C : Addr) : Sp := fun vs H Q _ => ∃ (kd p q : Addr) (f : Bool) (lo hi o0 o1 p0 p1 : Int), vs = [.ref kd, .bl f, .ref p, .ref q] ∧ IsKind C H kd lo hi ∧ lo ≤ 0 ∧ 0 ≤ hi ∧ Span H p o0 o1 ∧ Span H q p0 p1 ∧
  ∀ v H', Same H H' → RsG f lo (hi - lo + 1) o0 o1 p0 p1 H' v → Q v H'
theorem ok_told {f C : Addr} {fd : FuncData} (F : Fun K "_law_told" "_law_told" s__law_told f fd) (c_al : Cal P w K mg base 4 "alike" P_alike (spAlike C)) (c_or : Cal P w K mg base 4 "ordered" P_ordered (spOrdered C)) :
    FnOk P w K mg base CX0 5 f fd P__law_told (spTold C) := by
  obtain ⟨f_al, fd_al, G_alike, b_alike, g_alike, k_alike⟩ := c_al
  obtain ⟨f_or, fd_or, G_ordered, b_ordered, g_ordered, k_ordered⟩ := c_or
  refine F.ok sc__law_told (fun vs H Q E h => ?_) (fun cdv A outer s H vs Q E hr h => ?_)
  · obtain ⟨kd, p, q, f, lo, hi, o0, o1, p0, p1, rfl, _⟩ := h
    rfl
  · obtain ⟨kd, p, q, fl, lo, hi, o0, o1, p0, p1, rfl, hk, h1, h2, hp, hq, k⟩ := h
    refine ⟨_, (pss_one (ps_ret (pe_ifExp (pt_val (pv 1)) (pe_call G_ordered (hr.mono (by decide)) rfl g_ordered k_ordered b_ordered .nil pass0 (pa_cons (pv 0) (pa_cons (pv 2) (pa_cons (pv 3) pa_nil)))) (pe_call G_alike (hr.mono (by decide)) rfl g_alike k_alike b_alike .nil pass0 (pa_cons (pv 0) (pa_cons (pv 2) (pa_cons (pv 3) pa_nil))))))), ?_⟩
    fail "z run"
    refine rd_iteB (fun e => ?_) (fun e => ?_)
    · subst e
      fail "z run"
      exact ⟨kd, p, q, lo, hi, o0, o1, p0, p1, rfl, hk, h1, h2, hp, hq, fun v H' S R => k v H' S R⟩
    · subst e
      fail "z run"
      exact ⟨kd, p, q, lo, hi, o0, o1, p0, p1, rfl, hk, h1, h2, hp, hq, fun v H' S R => k v H' S R⟩
def spIn : Sp := fun vs H Q _ => ∃ (p : Addr) (a b n : Int), vs = [.ref p, .int n] ∧ Span H p a b ∧ a ≤ n ∧ n ≤ b ∧ Q (.bl true) H
theorem ok_in {f : Addr} {fd : FuncData} (F : Fun K "_law_is_in" "_law_is_in" s__law_is_in f fd) : FnOk P w K mg base CX0 1 f fd P__law_is_in spIn := by
  refine F.ok sc__law_is_in (fun vs H Q E h => ?_) (fun cdv A outer s H vs Q E hr h => ?_)
  · obtain ⟨p, a, b, n, rfl, _⟩ := h
    rfl
  · obtain ⟨p, a, b, n, rfl, ⟨hp, _⟩, h1, h2, k⟩ := h
    refine ⟨_, (pss_one (ps_ret (pe_chain op_le op_le (pe_ix ix_tup (pv 0) pe_int (fun _ _ => rfl)) (pv 1) (pe_ix ix_tup (pv 0) pe_int (fun _ _ => rfl))))), ?_⟩
    fail "z run"
    rw [decide_eq_true h1]
    fail "z run"
    show Q (.bl (decide (n ≤ b))) H
    rw [decide_eq_true h2]
    exact k
def spBreaks (C : Addr) : Sp := fun vs H Q _ => ∃ (kd t : Addr) (f : Bool) (lo hi a b : Int), vs = [.ref kd, .bl f, .ref t] ∧ IsKind C H kd lo hi ∧ lo ≤ 0 ∧ 0 ≤ hi ∧ H t = some (.tup [.int a, .int b]) ∧ Bf f lo (hi - lo + 1) a b ∧ ∀ H', Same H H' → Q (.bl true) H'
theorem ok_breaks {f C : Addr} {fd : FuncData} (F : Fun K "_law_breaks" "_law_breaks" s__law_breaks f fd) (KT : KindT K C) (c_cut : CalM P w K mg base C "cut" P_Kind_cut (spCutM C)) : FnOk P w K mg base CX0 3 f fd P__law_breaks (spBreaks C) := by
  obtain ⟨f_cut, fd_cut, m_cut, G_Kind_cut, b_Kind_cut⟩ := c_cut
  refine F.ok sc__law_breaks (fun vs H Q E h => ?_) (fun cdv A outer s H vs Q E hr h => ?_)
  · obtain ⟨kd, t, f, lo, hi, a, b, rfl, _⟩ := h
    rfl
  · obtain ⟨kd, t, fl, lo, hi, a, b, rfl, hk, h1, h2, ht, bf, k⟩ := h
    have noc : (kf lo hi).lookup ("cut" : Str) = none := kf_no lo hi (by decide +kernel) (by decide +kernel) (by decide +kernel)
    obtain ⟨dx, ek⟩ := id hk
    refine ⟨_, (pss_cons (ps_asg (pv 2) (pg_tup rfl (pgs_cons (pg_name (i := 3) sc__law_breaks.nd rfl (Or.inl rfl)) (pgs_cons (pg_name (i := 4) sc__law_breaks.nd rfl (Or.inl rfl)) pgs_nil))))
      (pss_cons (ps_set (i := 5) sc__law_breaks.nd rfl (Or.inl rfl) (pe_lst (pa_cons (pe_meth (pv 0) KT.cl m_cut G_Kind_cut (hr.mono (by decide)) b_Kind_cut .nil pass0 (pa_cons (pv 3) pa_nil)) (pa_cons (pe_meth (pv 0) KT.cl m_cut G_Kind_cut (hr.mono (by decide)) b_Kind_cut .nil pass0 (pa_cons (pv 4) pa_nil)) pa_nil))))
      (pss_one (ps_ret (pe_ifExp (pt_val (pv 1)) (pe_cmpR op_ne (pe_cmpR op_lt (pv 3) (pv 4) (nomark _)) (pe_cmpR op_lt (pe_ix ix_list (pv 5) pe_int (fun _ _ => rfl)) (pe_ix ix_list (pv 5) pe_int (fun _ _ => rfl)) (nomark _)) (nomark _)) (pe_and (pe_cmpR op_ne (pv 3) (pv 4) (nomark _)) (pe_one (pe_cmpR op_eq (pe_ix ix_list (pv 5) pe_int (fun _ _ => rfl)) (pe_ix ix_list (pv 5) pe_int (fun _ _ => rfl)) (nomark _))))))))), ?_⟩
    fail "z run"
    refine rd_gtup ht rfl ?_
    fail "z run"
    with_reducible refine rd_meth ?_
    fail "z run"
    refine ⟨kd, dx, _, rfl, ek, noc, ?_⟩
    fail "z run"
    refine ⟨kd, lo, hi, a, rfl, hk, h1, h2, ?_⟩
    fail "z run"
    with_reducible refine rd_meth ?_
    fail "z run"
    refine ⟨kd, dx, _, rfl, ek, noc, ?_⟩
    fail "z run"
    refine ⟨kd, lo, hi, b, rfl, hk, h1, h2, ?_⟩
    fail "z run"
    intro l hl
    fail "z run"
    refine rd_iteB (fun e => ?_) (fun e => ?_)
    · subst e
      fail "z run"
      have ne : decide (V.bl (decide (a < b)) = V.bl (decide (lo + pl lo (hi - lo + 1) a < lo + pl lo (hi - lo + 1) b))) = false := decide_eq_false fun z => absurd bf (wr_bl.mp z.symm)
      rw [ne]
      exact k _ (same_new hl)
    · subst e
      obtain ⟨nab, dv⟩ := bf
      fail "z run"
      have ne : decide (V.int a = V.int b) = false := decide_eq_false fun z => nab (V.int.inj z)
      rw [ne]
      refine iteT ?_
      fail "z run"
      have eq : decide (V.int (lo + pl lo (hi - lo + 1) a) = V.int (lo + pl lo (hi - lo + 1) b)) = true := decide_eq_true (by rw [pl_eq.mpr dv])
      rw [eq]
      exact k _ (same_new hl)
def spEnds : Sp := fun vs H Q _ => ∃ (p : Addr) (n : Nat), vs = [.ref p] ∧ Pot H p (n + 2) ∧ ∀ t d hi H', Kp p H H' → Pot H' p n → H' t = some (.tup [.int (-d), .int hi]) → 0 ≤ d → d ≤ 1000000 → 15 ≤ hi → hi ≤ 1000000000 → Q (.ref t) H'
theorem ok_ends {f : Addr} {fd : FuncData} (F : Fun K "_law_kind_ends" "_law_kind_ends" s__law_kind_ends f fd) (c_of : Cal P w K mg base 2 "_law_of" P__law_of spOf) : FnOk P w K mg base CX0 3 f fd P__law_kind_ends spEnds := by
  obtain ⟨f_of, fd_of, G__law_of, b__law_of, g__law_of, k__law_of⟩ := c_of
  refine F.ok sc__law_kind_ends (fun vs H Q E h => ?_) (fun cdv A outer s H vs Q E hr h => ?_)
  · obtain ⟨p, n, rfl, _⟩ := h
    rfl
  · obtain ⟨p, n, rfl, hp, k⟩ := h
    refine ⟨_, (pss_one (ps_ret (pe_tup (pa_cons (pe_un un_neg (pe_call G__law_of (hr.mono (by decide)) rfl g__law_of k__law_of b__law_of .nil pass0 (pa_cons (pv 0) (pa_cons (pe_lst (pa_cons pe_int (pa_cons pe_int (pa_cons pe_int (pa_cons (pe_op op_pow pe_int pe_int) pa_nil))))) pa_nil)))) (pa_cons (pe_call G__law_of (hr.mono (by decide)) rfl g__law_of k__law_of b__law_of .nil pass0 (pa_cons (pv 0) (pa_cons (pe_lst (pa_cons pe_int (pa_cons pe_int (pa_cons pe_int (pa_cons (pe_op op_pow pe_int pe_int) pa_nil))))) pa_nil))) pa_nil))))), ?_⟩
    fail "z run"
    intro a1 ha1
    fail "z run"
    refine ⟨p, a1, n + 1, _, rfl, hp.new ha1, (hp.ne ha1).symm, upd_same, by decide, by decide, fun v H1 hv K1 P1 => ?_⟩
    obtain ⟨d, rfl, d0, d1⟩ : ∃ d : Int, v = .int d ∧ 0 ≤ d ∧ d ≤ 1000000 := by
      simp only [List.mem_cons, List.not_mem_nil, or_false] at hv
      rcases hv with rfl | rfl | rfl | rfl <;> exact ⟨_, rfl, by decide, by decide⟩
    fail "z run"
    intro a2 ha2
    fail "z run"
    refine ⟨p, a2, n, _, rfl, P1.new ha2, (P1.ne ha2).symm, upd_same, by decide, by decide, fun v H2 hv K2 P2 => ?_⟩
    obtain ⟨hi, rfl, e0, e1⟩ : ∃ d : Int, v = .int d ∧ 15 ≤ d ∧ d ≤ 1000000000 := by
      simp only [List.mem_cons, List.not_mem_nil, or_false] at hv
      rcases hv with rfl | rfl | rfl | rfl <;> exact ⟨_, rfl, by decide, by decide⟩
    fail "z run"
    intro t ht
    exact k t d hi _ ((((Kp.refl.new ha1).trans K1).new ha2).trans K2 |>.new ht) (P2.new ht) upd_same d0 d1 e0 e1
theorem Pot.same {H H' : Hp} {p : Addr} {n : Nat} (h : Pot H p n) (s : Same H H') : Pot H' p n := by
  obtain ⟨x, z, c, a, b⟩ := h
  exact ⟨x, z, c, s _ _ a, b⟩
theorem IsKind.kp {C p a : Addr} {H H' : Hp} {lo hi : Int} {n : Nat} (h : IsKind C H a lo hi) (hp : Pot H p n) (k : Kp p H H') : IsKind C H' a lo hi := by
  obtain ⟨dx, e⟩ := h
  obtain ⟨x, z, c, ep, _⟩ := hp
  exact ⟨dx, k _ _ (fun q => by rw [q, ep] at e; cases e) e⟩
theorem Span.kp {p a : Addr} {H H' : Hp} {x y : Int} {n : Nat} (h : Span H a x y) (hp : Pot H p n) (k : Kp p H H') : Span H' a x y := by
  obtain ⟨x, z, c, ep, _⟩ := hp
  exact ⟨k _ _ (fun q => by have := h.1; rw [q, ep] at this; cases this) h.1, h.2⟩
def spSpan7 : Sp := fun vs H Q _ => ∃ (p : Addr) (n : Nat) (lo hi : Int), vs = [.ref p, .int lo, .int hi] ∧ Pot H p (n + 6) ∧ -1000000 ≤ lo ∧ lo ≤ 0 ∧ 15 ≤ hi ∧ hi ≤ 1000000000 ∧
  ∀ (t : Addr) (a b : Int) (H' : Hp), Kp p H H' → Pot H' p n → Span H' t a b → -1000000000000 ≤ a → b ≤ 1000000000000 → Q (.ref t) H'
theorem ok_span7 {f : Addr} {fd : FuncData} (F : Fun K "_law_span" "_law_span" s__law_span f fd) (T : Txt mg) (c_take : Cal P w K mg base 1 "_law_take" P__law_take spTake) (c_of : Cal P w K mg base 2 "_law_of" P__law_of spOf) :
    FnOk P w K mg base CX0 3 f fd P__law_span spSpan7 := by
  obtain ⟨f_take, fd_take, G__law_take, b__law_take, g__law_take, k__law_take⟩ := c_take
  obtain ⟨f_of, fd_of, G__law_of, b__law_of, g__law_of, k__law_of⟩ := c_of
  refine F.ok sc__law_span (fun vs H Q E h => ?_) (fun cdv A outer s H vs Q E hr h => ?_)
  · obtain ⟨p, n, lo, hi, rfl, _⟩ := h
    rfl
  · obtain ⟨p, n, lo, hi, rfl, hp, l0, l1, l2, l3, k⟩ := h
    refine ⟨_, (pss_cons (ps_set (i := 3) sc__law_span.nd rfl (Or.inl rfl) (pe_op op_add (pe_op op_sub (pv 2) (pv 1)) pe_int))
      (pss_cons (ps_set (i := 4) sc__law_span.nd rfl (Or.inl rfl) (pe_op op_add (pe_call G__law_of (hr.mono (by decide)) rfl g__law_of k__law_of b__law_of .nil pass0 (pa_cons (pv 0) (pa_cons (pe_lst (pa_cons (pv 1) (pa_cons (pv 2) (pa_cons pe_int (pa_cons (pe_op op_add (pv 1) (pe_call G__law_take (hr.mono (by decide)) rfl g__law_take k__law_take b__law_take .nil pass0 (pa_cons (pv 0) (pa_cons (pv 3) pa_nil)))) pa_nil))))) pa_nil))) (pe_call G__law_take (hr.mono (by decide)) rfl g__law_take k__law_take b__law_take .nil pass0 (pa_cons (pv 0) (pa_cons pe_int pa_nil)))))
      (pss_cons (ps_set (i := 4) sc__law_span.nd rfl (Or.inl rfl) (pe_op op_add (pv 4) (pe_op op_mul (pv 3) (pe_op op_sub (pe_call G__law_take (hr.mono (by decide)) rfl g__law_take k__law_take b__law_take .nil pass0 (pa_cons (pv 0) (pa_cons pe_int pa_nil))) pe_int))))
      (pss_cons (ps_set (i := 5) sc__law_span.nd rfl (Or.inl rfl) (pe_call G__law_of (hr.mono (by decide)) rfl g__law_of k__law_of b__law_of .nil pass0 (pa_cons (pv 0) (pa_cons (pe_lst (pa_cons pe_int (pa_cons pe_int (pa_cons (pe_op op_fdivW (pv 3) pe_int) (pa_cons (pe_op op_sub (pv 3) pe_int) (pa_cons (pe_op op_sub (pv 3) pe_int) (pa_cons (pv 3) (pa_cons (pe_op op_mul pe_int (pv 3)) pa_nil)))))))) pa_nil))))
      (pss_one (ps_ret (pe_tup (pa_cons (pv 4) (pa_cons (pe_op op_add (pv 4) (pe_callB (call_max2 rfl) (by rfl) T.n_max (by decide +kernel) (pa_cons pe_int (pa_cons (pe_op op_sub (pe_op op_add (pv 5) (pe_call G__law_take (hr.mono (by decide)) rfl g__law_take k__law_take b__law_take .nil pass0 (pa_cons (pv 0) (pa_cons pe_int pa_nil)))) pe_int) pa_nil)))) pa_nil))))))))), ?_⟩
    fail "z run"
    obtain ⟨m, em⟩ : ∃ m, m = hi - lo + 1 := ⟨_, rfl⟩
    rw [← em]
    refine ⟨p, n + 5, m, rfl, hp, by omega, by omega, fun r1 H1 r10 r11 K1 P1 => ?_⟩
    fail "z run"
    intro a1 ha1
    fail "z run"
    refine ⟨p, a1, n + 4, _, rfl, P1.new ha1, (P1.ne ha1).symm, upd_same, by simp, by simp, fun v H2 hv K2 P2 => ?_⟩
    obtain ⟨f0, rfl, f00, f01⟩ : ∃ d : Int, v = .int d ∧ -1000000 ≤ d ∧ d ≤ 2000000000 := by
      simp only [List.mem_cons, List.not_mem_nil, or_false] at hv
      rcases hv with rfl | rfl | rfl | rfl <;> exact ⟨_, rfl, by omega, by omega⟩
    have K2' := (K1.new ha1).trans K2
    fail "z run"
    refine ⟨p, n + 3, 5, rfl, P2, by decide, by decide, fun r3 H3 r30 r31 K3 P3 => ?_⟩
    fail "z run"
    refine ⟨p, n + 2, 5, rfl, P3, by decide, by decide, fun r4 H4 r40 r41 K4 P4 => ?_⟩
    fail "z run"
    have bB : -(m * 2) ≤ m * (r4 - 2) ∧ m * (r4 - 2) ≤ m * 2 := by
      constructor
      · rw [← Int.mul_neg]
        exact Int.mul_le_mul_of_nonneg_left (by omega) (by omega)
      · exact Int.mul_le_mul_of_nonneg_left (by omega) (by omega)
    generalize m * (r4 - 2) = W at *
    fail "z run"
    intro a5 ha5
    fail "z run"
    refine ⟨p, a5, n + 1, _, rfl, P4.new ha5, (P4.ne ha5).symm, upd_same, by simp, by simp, fun v H5 hv K5 P5 => ?_⟩
    obtain ⟨g0, rfl, g00, g01⟩ : ∃ d : Int, v = .int d ∧ -2 ≤ d ∧ d ≤ 3000000000 := by
      simp only [List.mem_cons, List.not_mem_nil, or_false] at hv
      rcases hv with rfl | rfl | rfl | rfl | rfl | rfl | rfl <;> exact ⟨_, rfl, by omega, by omega⟩
    fail "z run"
    refine ⟨p, n, 3, rfl, P5, by decide, by decide, fun r6 H6 r60 r61 K6 P6 => ?_⟩
    fail "z run"
    intro t ht
    exact k t _ _ _ (((((K2'.trans K3).trans K4).new ha5).trans K5).trans K6 |>.new ht) (P6.new ht) ⟨upd_same, by split <;> omega⟩ (by omega) (by split <;> omega)
theorem eqv_pair (x y : Int) : PyData.eqv (.tuple [.int x, .int y]) (.tuple [.int x, .int y]) = true := by
  simp [PyData.eqv, PyData.eqvAll]
theorem dp_pair {K : PySem.W.Frag} {H : Hp} {t : Addr} {x y : Int} (h : H t = some (.tup [.int x, .int y])) : Dp K H (.ref t) (.tuple [.int x, .int y]) := .tup (SqT.of h) (.cons (.int _) (.cons (.int _) .nil))
theorem sm_pair {x y : Int} (a : -(2 ^ 200) < x) (b : x < 2 ^ 200) (c : -(2 ^ 200) < y) (d : y < 2 ^ 200) : Sm 1 404 (.tuple [.int x, .int y]) := sm_tup (sm_cons (sm_int a b) (sm_cons (sm_int c d) sm_nil))
theorem SmAll.up {k n k' n' : Nat} {d : List PyData} (h : SmAll k n d) (hk : k ≤ k') (hn : n ≤ n') : SmAll k' n' d := ⟨h.sh, h.nd, h.cl, h.ls, Nat.le_trans h.wt hn, Nat.le_trans h.dp hk⟩
abbrev s__law_parted_right : Stmt := (top 37)
abbrev N__law_parted_right : List Str := ["_law_pot", "_law_kind", "_law_is_order", "_law_spans", "_law_told_here", "_law_one", "_law_other", "_law_middle", "_law_parts", "_law_found", "_law_part"]
abbrev P__law_parted_right : List Str := ["_law_pot", "_law_kind", "_law_is_order", "_law_spans", "_law_told_here"]
theorem sc__law_parted_right : FnScope N__law_parted_right P__law_parted_right (defScope s__law_parted_right) := ⟨rfl, rfl, rfl, by decide +kernel, rfl, by decide +kernel, by decide +kernel⟩

theorem Gd.wide {f : Bool} {lo m o0 o1 p0 p1 q0 q1 a b : Int} (h : Gd f lo m o0 o1 p0 p1 a b) (l : q0 ≤ a) (r : a ≤ q1) : Gd f lo m q0 q1 p0 p1 a b := ⟨⟨l, r, h.1.2.2.1, h.1.2.2.2⟩, h.2⟩
/-- what is told of a span is told of the first part that has any -/
theorem parts {f : Bool} {lo m a0 a1 b0 b1 md : Int} {H : Hp} {th v1 v2 : V} (h0 : a0 ≤ md) (h1 : md < a1) (R0 : RsG f lo m a0 a1 b0 b1 H th) (R1 : RsG f lo m a0 md b0 b1 H v1) (R2 : RsG f lo m (md + 1) a1 b0 b1 H v2) :
    (th = .non ∧ v1 = .non ∧ v2 = .non) ∨ ∃ u t x y, th = .ref u ∧ H u = some (.tup [.int x, .int y]) ∧ H t = some (.tup [.int x, .int y]) ∧ InR a0 a1 b0 b1 x y ∧ (v1 = .ref t ∨ (v1 = .non ∧ v2 = .ref t)) := by
  rcases R1 with ⟨e1, no1⟩ | ⟨t1, x1, y1, e1, ht1, g1, le1⟩
  · rcases R2 with ⟨e2, no2⟩ | ⟨t2, x2, y2, e2, ht2, g2, le2⟩
    · rcases R0 with ⟨e0, _⟩ | ⟨u, x, y, _, _, g, _⟩
      · exact .inl ⟨e0, e1, e2⟩
      · by_cases q : x ≤ md
        · exact (no1 x y (g.wide g.1.1 q)).elim
        · exact (no2 x y (g.wide (by omega) g.1.2.1)).elim
    · have gw : Gd f lo m a0 a1 b0 b1 x2 y2 := g2.wide (by have := g2.1.1; omega) g2.1.2.1
      rcases R0 with ⟨_, no⟩ | ⟨u, x, y, e0, hu, g, le⟩
      · exact (no _ _ gw).elim
      · by_cases q : x ≤ md
        · exact (no1 x y (g.wide g.1.1 q)).elim
        · obtain ⟨rfl, rfl⟩ := (le _ _ gw).anti (le2 _ _ (g.wide (by omega) g.1.2.1))
          exact .inr ⟨u, t2, x, y, e0, hu, ht2, g.1, .inr ⟨e1, e2⟩⟩
  · have gw : Gd f lo m a0 a1 b0 b1 x1 y1 := g1.wide g1.1.1 (by have := g1.1.2.1; omega)
    rcases R0 with ⟨_, no⟩ | ⟨u, x, y, e0, hu, g, le⟩
    · exact (no _ _ gw).elim
    · have l := le _ _ gw
      have q : x ≤ md := by
        have := g1.1.2.1
        unfold LexLe at l
        omega
      obtain ⟨rfl, rfl⟩ := l.anti (le1 _ _ (g.wide g.1.1 q))
      exact .inr ⟨u, t1, x, y, e0, hu, ht1, g.1, .inl e1⟩
theorem RsG.dp {f : Bool} {lo m o0 o1 p0 p1 : Int} {K : PySem.W.Frag} {H : Hp} {v : V} (h : RsG f lo m o0 o1 p0 p1 H v) (b1 : -(2 ^ 100) < o0) (b2 : o1 < 2 ^ 100) (b3 : -(2 ^ 100) < p0) (b4 : p1 < 2 ^ 100) : ∃ d, Dp K H v d ∧ Sm 1 404 d := by
  rcases h with ⟨rfl, _⟩ | ⟨t, x, y, rfl, ht, ⟨⟨i1, i2, i3, i4⟩, _⟩, _⟩
  · exact ⟨.none, .non, (sm_none (k := 0)).up (by decide) (by decide)⟩
  · exact ⟨_, dp_pair ht, sm_pair (by omega) (by omega) (by omega) (by omega)⟩
def ks (v1 v2 : V) (i : Nat) : List V := ([v1, v2].take i).filter fun v => !decide (v = V.non)
def spParted (C : Addr) : Sp := fun vs H Q _ => ∃ (p kd s t1 t2 : Addr) (th : V) (f : Bool) (n : Nat) (lo hi a0 a1 b0 b1 : Int), vs = [.ref p, .ref kd, .bl f, .ref s, th] ∧ Pot H p (n + 1) ∧ IsKind C H kd lo hi ∧ lo ≤ 0 ∧ 0 ≤ hi ∧
  H s = some (.tup [.ref t1, .ref t2]) ∧ Span H t1 a0 a1 ∧ Span H t2 b0 b1 ∧ -(2 ^ 90) < a0 ∧ a1 < 2 ^ 90 ∧ -(2 ^ 90) < b0 ∧ b1 < 2 ^ 90 ∧ RsG f lo (hi - lo + 1) a0 a1 b0 b1 H th ∧ ∀ H', Kp p H H' → Pot H' p n → Q (.bl true) H'
theorem RsG.kp {f : Bool} {lo m o0 o1 p0 p1 : Int} {H H' : Hp} {v : V} {p : Addr} {n : Nat} (h : RsG f lo m o0 o1 p0 p1 H v) (hp : Pot H p n) (k : Kp p H H') : RsG f lo m o0 o1 p0 p1 H' v := by
  rcases h with h | ⟨t, x, y, e, ht, va, le⟩
  · exact .inl h
  · obtain ⟨a, b, c, ep, _⟩ := hp
    exact .inr ⟨t, x, y, e, k _ _ (fun q => by rw [q, ep] at ht; cases ht) ht, va, le⟩
theorem ok_parted {f C : Addr} {fd : FuncData} (F : Fun K "_law_parted_right" "_law_parted_right" s__law_parted_right f fd) (T : Txt mg) (c_take : Cal P w K mg base 1 "_law_take" P__law_take spTake) (c_told : Cal P w K mg base 5 "_law_told" P__law_told (spTold C)) :
    FnOk P w K mg base CX0 6 f fd P__law_parted_right (spParted C) := by
  obtain ⟨f_take, fd_take, G__law_take, b__law_take, g__law_take, k__law_take⟩ := c_take
  obtain ⟨f_told, fd_told, G__law_told, b__law_told, g__law_told, k__law_told⟩ := c_told
  refine F.ok sc__law_parted_right (fun vs H Q E h => ?_) (fun cdv A outer s H vs Q E hr h => ?_)
  · obtain ⟨p, kd, s, t1, t2, th, f, n, lo, hi, a0, a1, b0, b1, rfl, _⟩ := h
    rfl
  · obtain ⟨p, kd, sp, t1, t2, th, fl, n, lo, hi, a0, a1, b0, b1, rfl, hp, hk, l0, l1, hs, s1, s2, B1, B2, B3, B4, R0, k⟩ := h
    have i1 := s1.1
    have le1 := s1.2
    refine ⟨_, (pss_cons (ps_asg (pv 3) (pg_tup rfl (pgs_cons (pg_name (i := 5) sc__law_parted_right.nd rfl (Or.inl rfl)) (pgs_cons (pg_name (i := 6) sc__law_parted_right.nd rfl (Or.inl rfl)) pgs_nil))))
      (pss_cons (ps_if (pt_cmpR op_eq (pe_ix ix_tup (pv 5) pe_int (fun _ _ => rfl)) (pe_ix ix_tup (pv 5) pe_int (fun _ _ => rfl)) (nomark _)) (pss_one (ps_ret pe_bl)) pss_nil)
      (pss_cons (ps_set (i := 7) sc__law_parted_right.nd rfl (Or.inl rfl) (pe_op op_add (pe_ix ix_tup (pv 5) pe_int (fun _ _ => rfl)) (pe_call G__law_take (hr.mono (by decide)) rfl g__law_take k__law_take b__law_take .nil pass0 (pa_cons (pv 0) (pa_cons (pe_op op_sub (pe_ix ix_tup (pv 5) pe_int (fun _ _ => rfl)) (pe_ix ix_tup (pv 5) pe_int (fun _ _ => rfl))) pa_nil)))))
      (pss_cons (ps_set (i := 8) sc__law_parted_right.nd rfl (Or.inl rfl) (pe_lst (pa_cons (pe_call G__law_told (hr.mono (by decide)) rfl g__law_told k__law_told b__law_told .nil pass0 (pa_cons (pv 1) (pa_cons (pv 2) (pa_cons (pe_tup (pa_cons (pe_ix ix_tup (pv 5) pe_int (fun _ _ => rfl)) (pa_cons (pv 7) pa_nil))) (pa_cons (pv 6) pa_nil))))) (pa_cons (pe_call G__law_told (hr.mono (by decide)) rfl g__law_told k__law_told b__law_told .nil pass0 (pa_cons (pv 1) (pa_cons (pv 2) (pa_cons (pe_tup (pa_cons (pe_op op_add (pv 7) pe_int) (pa_cons (pe_ix ix_tup (pv 5) pe_int (fun _ _ => rfl)) pa_nil))) (pa_cons (pv 6) pa_nil))))) pa_nil))))
      (pss_cons (ps_setLc (i := 9) (own := [("_law_part", 10)]) (g := gName 10)  rfl sc__law_parted_right.nd rfl rfl (sw_true rfl rfl rfl (by decide +kernel)) (pi_list (pv 8)) (blkOk_by (N := N__law_parted_right) (sc := defScope s__law_parted_right) (by decide +kernel)) (fun _ _ _ _ _ => (pg_name (i := 10) sc__law_parted_right.nd rfl (Or.inl rfl))) (fun _ _ _ _ _ => (pts_one (pt_cmpR op_notN (pv 10) pe_non (nomark _)))) (fun _ _ _ _ _ => (pv 10)))
      (pss_one (ps_ret (pe_cmpR (op_eqD hr.units) (pv 4) (pe_ifExp (pt_cmpR (op_neD hr.units) (pv 9) (pe_lst pa_nil) (nomark _)) (pe_ix ix_list (pv 9) pe_int (fun _ _ => rfl)) pe_non) (nomark _))))))))), ?_⟩
    fail "z run"
    refine rd_gtup hs rfl ?_
    fail "z run"
    refine rd_ite (fun e => ?_) (fun ne => ?_)
    · fail "z run"
      exact k H Kp.refl (hp.le (by omega))
    · have ne' : a0 ≠ a1 := fun e => ne (congrArg V.int e)
      fail "z run"
      refine ⟨p, n, a1 - a0, rfl, hp, by omega, by omega, fun r H1 r0 r1 K1 P1 => ?_⟩
      have k1 := hk.kp hp K1
      have s11 := s1.kp hp K1
      have s12 := s2.kp hp K1
      have i11 := s11.1
      have R01 := R0.kp hp K1
      fail "z run"
      intro t3 h3
      fail "z run"
      refine ⟨kd, t3, t2, fl, lo, hi, a0, a0 + r, b0, b1, rfl, k1.same (same_new h3), l0, l1, ⟨upd_same, by omega⟩, s12.same (same_new h3), fun v1 H2 S2 R1 => ?_⟩
      have S2' := (same_new h3).trans S2
      have i12 := S2' _ _ i11
      fail "z run"
      intro t4 h4
      fail "z run"
      refine ⟨kd, t4, t2, fl, lo, hi, a0 + r + 1, a1, b0, b1, rfl, (k1.same S2').same (same_new h4), l0, l1, ⟨upd_same, by omega⟩, (s12.same S2').same (same_new h4), fun v2 H3 S3 R2 => ?_⟩
      have S3' := (same_new h4).trans S3
      fail "z run"
      intro l hl
      have Sl := same_new (o := .lst [v1, v2]) hl
      have S4 := (S2'.trans S3').trans Sl
      have R1' := (R1.same S3').same Sl
      have R2' := R2.same Sl
      have R0' := R01.same S4
      have P4 := P1.same S4
      have K4 := K1.trans fun b o _ e => S4 b o e
      have hL : upd H3 l (.lst [v1, v2]) l = some (.lst [v1, v2]) := upd_same
      generalize upd H3 l (.lst [v1, v2]) = H4 at *
      fail "z run"
      unfold tLc
      with_reducible refine rd_iL ?_
      fail "z run"
      refine rd_iLa hL fun D hD => lc_list (K := K) (a := l) (xs := [v1, v2]) (fun i H' => Same H4 H' ∧ H' D = some (.lst (ks v1 v2 i))) ⟨same_new hD, upd_same⟩ (fun i H' _ ⟨s, _⟩ => SqL.of (s _ _ hL)) ?_ ?_
      · rintro i x H' hx ⟨S5, hd5⟩
        have i2 : i < 2 := (List.getElem?_eq_some_iff.mp hx).1
        have st : ks v1 v2 (i + 1) = ks v1 v2 i ++ [x].filter fun v => !decide (v = V.non) := by
          unfold ks
          rw [List.take_add_one, hx, List.filter_append]
          rfl
        have fewer : (ks v1 v2 i).length ≤ 2 := by
          have := List.length_filter_le (fun v => !decide (v = V.non)) ([v1, v2].take i)
          have l2 : ([v1, v2].take i).length ≤ 2 := by rw [List.length_take]; exact Nat.min_le_right _ _
          unfold ks
          omega
        fail "z run"
        refine ⟨rfl, ?_⟩
        fail "z run"
        refine rd_iteN (fun nn => ?_) (fun eq => ?_)
        · fail "z run"
          refine ⟨_, hd5, Nat.lt_of_le_of_lt fewer (small1000 (by decide)), fun b o e => ?_, ?_⟩
          · rw [upd_ne (ne_of_none e hD)]
            exact S5 b o e
          · rw [st, show [x].filter (fun v => !decide (v = V.non)) = [x] by simp [nn]]
            exact upd_same
        · refine ⟨S5, ?_⟩
          rw [st, show [x].filter (fun v => !decide (v = V.non)) = [] by simp [eq], List.append_nil]
          exact hd5
      · rintro H' ⟨S5, hd5⟩
        have P5 := P4.same S5
        have K5 := K4.trans fun b o _ e => S5 b o e
        fail "z run"
        intro e he
        have Se := same_new (o := .lst []) he
        obtain ⟨d2, dp2, sm2⟩ := ((R2'.same S5).same Se).dp (K := K) (by omega) (by omega) (by omega) (by omega)
        rcases parts (by omega) (by omega) (R0'.same S5) (R1'.same S5) (R2'.same S5) with ⟨e0, e1, e2⟩ | ⟨u, t, x, y, e0, hu, ht, ⟨j1, j2, j3, j4⟩, alt⟩
        · subst e0 e1 e2
          have hd6 : upd H' e (.lst []) D = some (.lst []) := (upd_ne (ne_of_none hd5 he)).trans hd5
          refine rd_neD (d := .list []) (e := .list []) (.lst (SqL.of hd6) .nil) (.lst (SqL.of upd_same) .nil) (sm_list (k := 0) sm_nil) (sm_list (k := 0) sm_nil) (by decide) (by decide) ?_
          rw [show PyData.eqv (.list []) (.list []) = true by simp [PyData.eqv, PyData.eqvAll]]
          fail "z run"
          refine iteF ?_
          fail "z run"
          refine rd_eqD .non .non (sm_none (k := 0)) (sm_none (k := 0)) (by decide) (by decide) ?_
          rw [show PyData.eqv .none .none = true by simp [PyData.eqv]]
          exact k _ (K5.new he) (P5.new he)
        · subst e0
          have found : ∃ rest ds, ks v1 v2 2 = .ref t :: rest ∧ DpAll K (upd H' e (.lst [])) rest ds ∧ SmAll 1 405 ds := by
            rcases alt with rfl | ⟨rfl, rfl⟩
            · by_cases q : v2 = .non
              · exact ⟨[], [], by simp [ks, q], .nil, (sm_nil (k := 1)).up (by decide) (by decide)⟩
              · exact ⟨[v2], [d2], by simp [ks, q], .cons dp2 .nil, (sm_cons sm2 (sm_nil (k := 1))).up (by decide) (by decide)⟩
            · exact ⟨[], [], by simp [ks], .nil, (sm_nil (k := 1)).up (by decide) (by decide)⟩
          obtain ⟨rest, ds, ek, dpr, smr⟩ := found
          have hd6 : upd H' e (.lst []) D = some (.lst (.ref t :: rest)) := by
            rw [upd_ne (ne_of_none hd5 he), hd5, ← ek]
            rfl
          have dt := dp_pair (K := K) (Se _ _ ht)
          have du := dp_pair (K := K) (Se _ _ hu)
          have st := sm_pair (x := x) (y := y) (by omega) (by omega) (by omega) (by omega)
          refine rd_neD (d := .list (.tuple [.int x, .int y] :: ds)) (e := .list []) (.lst (SqL.of hd6) (.cons dt dpr)) (.lst (SqL.of upd_same) .nil) (sm_list (sm_cons st smr)) (sm_list (k := 0) sm_nil) (by decide) (by decide) ?_
          rw [show PyData.eqv (.list (.tuple [.int x, .int y] :: ds)) (.list []) = false by simp [PyData.eqv, PyData.eqvAll]]
          fail "z run"
          refine iteT ?_
          fail "z run"
          refine rd_eqD du dt st st (by decide) (by decide) ?_
          rw [eqv_pair]
          exact k _ (K5.new he) (P5.new he)
abbrev s__law_right : Stmt := (top 38)
abbrev N__law_right : List Str := ["_law_pot", "_law_low", "_law_high", "_law_kind", "_law_size", "_law_is_order", "_law_one", "_law_other", "_law_told_here", "_law_move", "_law_moved", "_law_turned"]
abbrev P__law_right : List Str := ["_law_pot"]
theorem sc__law_right : FnScope N__law_right P__law_right (defScope s__law_right) := ⟨rfl, rfl, rfl, by decide +kernel, rfl, by decide +kernel, by decide +kernel⟩

def spRight (n : Nat) : Sp := fun vs H Q _ => ∃ (p : Addr) (m : Nat), vs = [.ref p] ∧ Pot H p (m + n) ∧ ∀ H', Kp p H H' → Pot H' p m → Q (.bl true) H'
theorem rd_par3 {D : Ends} {σ : L2.St} {H : Hp} {a b c : Nat} {tA : TA} (k : tA σ H fun vs H1 => ∃ u v w, vs = [u, v, w] ∧ D.nx (((σ.set a (some u)).set b (some v)).set c (some w)) H1) : tPar3 a b c tA D σ H := k
theorem rd_iteTail {c : Prop} [Decidable c] {D : Ends} {σ : L2.St} {H : Hp} {ts tr : TS} (h : ∀ H', Same H H' → D.nx σ H') (k1 : (∀ H', Same H H' → D.nx σ H') → ¬ c → ts D σ H) (k2 : (∀ H', Same H H' → D.nx σ H') → c → tr D σ H) :
    if (!decide c) = true then ts D σ H else tr D σ H := rd_iteN (k1 h) (k2 h)
theorem rd_iteQ {K : PySem.W.Frag} {c : Prop} [Decidable c] {σ : L2.St} {H : Hp} {ta tb : TE} {mv : V} {Q : VK} (h : ∀ H', Same H H' → Q (.bl false) H') (k1 : (∀ H', Same H H' → Q (.bl false) H') → c → ta σ H fun y H2 => rNeD K mv y H2 Q)
    (k2 : (∀ H', Same H H' → Q (.bl false) H') → ¬ c → tb σ H fun y H2 => rNeD K mv y H2 Q) : if decide c = true then ta σ H (fun y H2 => rNeD K mv y H2 Q) else tb σ H (fun y H2 => rNeD K mv y H2 Q) := rd_ite (k1 h) (k2 h)
theorem rd_iteK {b : Bool} {σ : L2.St} {H : Hp} {tu : TT} {R : Bool → Hp → Prop} (h : ∀ H', Same H H' → R false H') (k : (∀ H', Same H H' → R false H') → b = true → tu σ H R) : if b = true then tu σ H R else R false H :=
  rd_iteB (k h) fun _ => h _ fun _ _ e => e
theorem Bf.shift {f : Bool} {lo m a b M : Int} (d : m ∣ M) : Bf f lo m (a + M) (b + M) ↔ Bf f lo m a b := by
  have ea : pl lo m (a + M) = pl lo m a := pl_eq.mpr (by rw [show a + M - a = M by omega]; exact d)
  have eb : pl lo m (b + M) = pl lo m b := pl_eq.mpr (by rw [show b + M - b = M by omega]; exact d)
  cases f with
  | true =>
    show Wr lo m (a + M) (b + M) ↔ Wr lo m a b
    unfold Wr
    rw [ea, eb]
    constructor <;> intro h q <;> apply h <;> omega
  | false =>
    show (a + M ≠ b + M ∧ m ∣ a + M - (b + M)) ↔ (a ≠ b ∧ m ∣ a - b)
    rw [show a + M - (b + M) = a - b by omega]
    constructor <;> rintro ⟨h, q⟩ <;> exact ⟨by omega, q⟩
theorem Gd.shift {f : Bool} {lo m o0 o1 p0 p1 a b M : Int} (d : m ∣ M) : Gd f lo m (o0 + M) (o1 + M) (p0 + M) (p1 + M) (a + M) (b + M) ↔ Gd f lo m o0 o1 p0 p1 a b := by
  unfold Gd InR
  rw [Bf.shift d]
  constructor <;> rintro ⟨⟨h1, h2, h3, h4⟩, q⟩ <;> exact ⟨⟨by omega, by omega, by omega, by omega⟩, q⟩
theorem moved {f : Bool} {lo m o0 o1 p0 p1 M : Int} {H : Hp} {th mv : V} (d : m ∣ M) (R : RsG f lo m o0 o1 p0 p1 H th) (S : RsG f lo m (o0 + M) (o1 + M) (p0 + M) (p1 + M) H mv) :
    (th = .non ∧ mv = .non) ∨ ∃ u t x y, th = .ref u ∧ mv = .ref t ∧ H u = some (.tup [.int x, .int y]) ∧ H t = some (.tup [.int (x + M), .int (y + M)]) ∧ InR o0 o1 p0 p1 x y := by
  rcases R with ⟨e, no⟩ | ⟨u, x, y, e, hu, g, le⟩
  · rcases S with ⟨e', _⟩ | ⟨t, x, y, e', ht, g, _⟩
    · exact .inl ⟨e, e'⟩
    · refine (no (x - M) (y - M) ((Gd.shift d).mp ?_)).elim
      rw [show x - M + M = x by omega, show y - M + M = y by omega]
      exact g
  · rcases S with ⟨_, no⟩ | ⟨t, x', y', e', ht, g', le'⟩
    · exact (no _ _ ((Gd.shift d).mpr g)).elim
    · have g2 : Gd f lo m o0 o1 p0 p1 (x' - M) (y' - M) := (Gd.shift d).mp (by rw [show x' - M + M = x' by omega, show y' - M + M = y' by omega]; exact g')
      have l1 := le _ _ g2
      have l2 := le' _ _ ((Gd.shift d).mpr g)
      have e1 : x' = x + M ∧ y' = y + M := by
        unfold LexLe at l1 l2
        omega
      rw [e1.1, e1.2] at ht
      exact .inr ⟨u, t, x, y, e, e', hu, ht, g.1⟩
theorem swapped {lo m o0 o1 p0 p1 : Int} {H : Hp} {th tv : V} (R : RsG false lo m o0 o1 p0 p1 H th) (S : RsG false lo m p0 p1 o0 o1 H tv) : tv = .non ↔ th = .non := by
  have sw : ∀ {o0 o1 p0 p1 a b : Int}, Gd false lo m o0 o1 p0 p1 a b → Gd false lo m p0 p1 o0 o1 b a := fun ⟨⟨h1, h2, h3, h4⟩, ne, dv⟩ => ⟨⟨h3, h4, h1, h2⟩, Ne.symm ne, dvd_sy dv⟩
  rcases R with ⟨e, no⟩ | ⟨u, x, y, e, hu, g, le⟩
  · rcases S with ⟨e', _⟩ | ⟨t, x, y, e', ht, g, _⟩
    · simp [e, e']
    · exact (no _ _ (sw g)).elim
  · rcases S with ⟨e', no⟩ | ⟨t, x, y, e', ht, g', _⟩
    · exact (no _ _ (sw g)).elim
    · simp [e, e']
theorem single {f : Bool} {lo m o0 o1 p0 p1 x y : Int} {H : Hp} {v : V} (g : Gd f lo m o0 o1 p0 p1 x y) (R : RsG f lo m x x y y H v) : ∃ t, v = .ref t ∧ H t = some (.tup [.int x, .int y]) := by
  have g2 : Gd f lo m x x y y x y := ⟨⟨by omega, by omega, by omega, by omega⟩, g.2⟩
  rcases R with ⟨_, no⟩ | ⟨t, x', y', e, ht, ⟨⟨h1, h2, h3, h4⟩, _⟩, _⟩
  · exact (no _ _ g2).elim
  · have e1 : x' = x ∧ y' = y := by omega
    rw [e1.1, e1.2] at ht
    exact ⟨t, e, ht⟩
theorem ok_right {f C : Addr} {fd : FuncData} (F : Fun K "_law_right" "_law_right" s__law_right f fd) (T : Txt mg) (c_take : Cal P w K mg base 1 "_law_take" P__law_take spTake) (c_ends : Cal P w K mg base 3 "_law_kind_ends" P__law_kind_ends spEnds)
    (c_kind : CalK P w K mg base C) (c_span : Cal P w K mg base 3 "_law_span" P__law_span spSpan7) (c_told : Cal P w K mg base 5 "_law_told" P__law_told (spTold C)) (c_in : Cal P w K mg base 1 "_law_is_in" P__law_is_in spIn)
    (c_breaks : Cal P w K mg base 3 "_law_breaks" P__law_breaks (spBreaks C)) (c_parted : Cal P w K mg base 6 "_law_parted_right" P__law_parted_right (spParted C)) :
    FnOk P w K mg base CX0 7 f fd P__law_right (spRight 17) := by
  obtain ⟨f_take, fd_take, G__law_take, b__law_take, g__law_take, k__law_take⟩ := c_take
  obtain ⟨f_ends, fd_ends, G__law_kind_ends, b__law_kind_ends, g__law_kind_ends, k__law_kind_ends⟩ := c_ends
  obtain ⟨f_kind, fd_kind, mk_Kind, G_Kind, b_Kind, g_Kind⟩ := c_kind
  obtain ⟨f_span, fd_span, G__law_span, b__law_span, g__law_span, k__law_span⟩ := c_span
  obtain ⟨f_told, fd_told, G__law_told, b__law_told, g__law_told, k__law_told⟩ := c_told
  obtain ⟨f_in, fd_in, G__law_is_in, b__law_is_in, g__law_is_in, k__law_is_in⟩ := c_in
  obtain ⟨f_breaks, fd_breaks, G__law_breaks, b__law_breaks, g__law_breaks, k__law_breaks⟩ := c_breaks
  obtain ⟨f_parted, fd_parted, G__law_parted_right, b__law_parted_right, g__law_parted_right, k__law_parted_right⟩ := c_parted
  refine F.ok sc__law_right (fun vs H Q E h => ?_) (fun cdv A outer s H vs Q E hr h => ?_)
  · obtain ⟨p, n, rfl, _⟩ := h
    rfl
  · obtain ⟨p, n, rfl, hp, k⟩ := h
    refine ⟨_, (pss_cons (ps_asg (pe_call G__law_kind_ends (hr.mono (by decide)) rfl g__law_kind_ends k__law_kind_ends b__law_kind_ends .nil pass0 (pa_cons (pv 0) pa_nil)) (pg_tup rfl (pgs_cons (pg_name (i := 1) sc__law_right.nd rfl (Or.inl rfl)) (pgs_cons (pg_name (i := 2) sc__law_right.nd rfl (Or.inl rfl)) pgs_nil))))
      (pss_cons (ps_par3 (i := 3) (j := 4) (l := 5) rfl sc__law_right.nd rfl rfl rfl (by decide) (by decide) (by decide) rfl rfl rfl (pa_cons (pe_make mk_Kind G_Kind (hr.mono (by decide)) rfl g_Kind b_Kind .nil pass0 (pa_cons (pv 1) (pa_cons (pv 2) pa_nil))) (pa_cons (pe_op op_add (pe_op op_sub (pv 2) (pv 1)) pe_int) (pa_cons (pe_cmpR op_eq (pe_call G__law_take (hr.mono (by decide)) rfl g__law_take k__law_take b__law_take .nil pass0 (pa_cons (pv 0) (pa_cons pe_int pa_nil))) pe_int (nomark _)) pa_nil))) (by rfl))
      (pss_cons (ps_par (i := 6) (j := 7) rfl sc__law_right.nd rfl rfl (by decide) rfl rfl (pa_cons (pe_call G__law_span (hr.mono (by decide)) rfl g__law_span k__law_span b__law_span .nil pass0 (pa_cons (pv 0) (pa_cons (pv 1) (pa_cons (pv 2) pa_nil)))) (pa_cons (pe_call G__law_span (hr.mono (by decide)) rfl g__law_span k__law_span b__law_span .nil pass0 (pa_cons (pv 0) (pa_cons (pv 1) (pa_cons (pv 2) pa_nil)))) pa_nil)) (by rfl))
      (pss_cons (ps_set (i := 8) sc__law_right.nd rfl (Or.inl rfl) (pe_call G__law_told (hr.mono (by decide)) rfl g__law_told k__law_told b__law_told .nil pass0 (pa_cons (pv 3) (pa_cons (pv 5) (pa_cons (pv 6) (pa_cons (pv 7) pa_nil))))))
      (pss_cons (ps_if (pt_cmpR op_notN (pv 8) pe_non (nomark _)) (pss_cons (ps_if (PW.pt (pw_or (pt_not (pt_val (pe_call G__law_is_in (hr.mono (by decide)) rfl g__law_is_in k__law_is_in b__law_is_in .nil pass0 (pa_cons (pv 6) (pa_cons (pe_ix ix_tup (pv 8) pe_int (fun _ _ => rfl)) pa_nil))))) (pw_or (pt_not (pt_val (pe_call G__law_is_in (hr.mono (by decide)) rfl g__law_is_in k__law_is_in b__law_is_in .nil pass0 (pa_cons (pv 7) (pa_cons (pe_ix ix_tup (pv 8) pe_int (fun _ _ => rfl)) pa_nil))))) (pw_or1 (pt_not (pt_val (pe_call G__law_breaks (hr.mono (by decide)) rfl g__law_breaks k__law_breaks b__law_breaks .nil pass0 (pa_cons (pv 3) (pa_cons (pv 5) (pa_cons (pv 8) pa_nil)))))))))) (pss_one (ps_ret pe_bl)) pss_nil)
      (pss_one (ps_if (pt_cmpR (op_neD hr.units) (pe_call G__law_told (hr.mono (by decide)) rfl g__law_told k__law_told b__law_told .nil pass0 (pa_cons (pv 3) (pa_cons (pv 5) (pa_cons (pe_tup (pa_cons (pe_ix ix_tup (pv 8) pe_int (fun _ _ => rfl)) (pa_cons (pe_ix ix_tup (pv 8) pe_int (fun _ _ => rfl)) pa_nil))) (pa_cons (pe_tup (pa_cons (pe_ix ix_tup (pv 8) pe_int (fun _ _ => rfl)) (pa_cons (pe_ix ix_tup (pv 8) pe_int (fun _ _ => rfl)) pa_nil))) pa_nil))))) (pv 8) (nomark _)) (pss_one (ps_ret pe_bl)) pss_nil))) pss_nil)
      (pss_cons (ps_set (i := 9) sc__law_right.nd rfl (Or.inl rfl) (pe_op op_mul (pv 4) (pe_op op_sub (pe_call G__law_take (hr.mono (by decide)) rfl g__law_take k__law_take b__law_take .nil pass0 (pa_cons (pv 0) (pa_cons pe_int pa_nil))) pe_int)))
      (pss_cons (ps_set (i := 10) sc__law_right.nd rfl (Or.inl rfl) (pe_call G__law_told (hr.mono (by decide)) rfl g__law_told k__law_told b__law_told .nil pass0 (pa_cons (pv 3) (pa_cons (pv 5) (pa_cons (pe_tup (pa_cons (pe_op op_add (pe_ix ix_tup (pv 6) pe_int (fun _ _ => rfl)) (pv 9)) (pa_cons (pe_op op_add (pe_ix ix_tup (pv 6) pe_int (fun _ _ => rfl)) (pv 9)) pa_nil))) (pa_cons (pe_tup (pa_cons (pe_op op_add (pe_ix ix_tup (pv 7) pe_int (fun _ _ => rfl)) (pv 9)) (pa_cons (pe_op op_add (pe_ix ix_tup (pv 7) pe_int (fun _ _ => rfl)) (pv 9)) pa_nil))) pa_nil))))))
      (pss_cons (ps_if (pt_cmpR (op_neD hr.units) (pv 10) (pe_ifExp (pt_cmpR op_isN (pv 8) pe_non (nomark _)) pe_non (pe_tup (pa_cons (pe_op op_add (pe_ix ix_tup (pv 8) pe_int (fun _ _ => rfl)) (pv 9)) (pa_cons (pe_op op_add (pe_ix ix_tup (pv 8) pe_int (fun _ _ => rfl)) (pv 9)) pa_nil)))) (nomark _)) (pss_one (ps_ret pe_bl)) pss_nil)
      (pss_cons (ps_set (i := 11) sc__law_right.nd rfl (Or.inl rfl) (pe_call G__law_told (hr.mono (by decide)) rfl g__law_told k__law_told b__law_told .nil pass0 (pa_cons (pv 3) (pa_cons (pv 5) (pa_cons (pv 7) (pa_cons (pv 6) pa_nil))))))
      (pss_cons (ps_if (PW.pt (pw_and (pt_not (pt_val (pv 5))) (pw_and1 (pt_cmpR op_ne (pe_cmpR op_isN (pv 11) pe_non (nomark _)) (pe_cmpR op_isN (pv 8) pe_non (nomark _)) (nomark _))))) (pss_one (ps_ret pe_bl)) pss_nil)
      (pss_cons (ps_if (PW.pt (pw_and (pt_cmpR op_notN (pv 11) pe_non (nomark _)) (pw_and1 (pt_not (pt_val (pe_call G__law_breaks (hr.mono (by decide)) rfl g__law_breaks k__law_breaks b__law_breaks .nil pass0 (pa_cons (pv 3) (pa_cons (pv 5) (pa_cons (pv 11) pa_nil))))))))) (pss_one (ps_ret pe_bl)) pss_nil)
      (pss_one (ps_ret (pe_call G__law_parted_right (hr.mono (by decide)) rfl g__law_parted_right k__law_parted_right b__law_parted_right .nil pass0 (pa_cons (pv 0) (pa_cons (pv 3) (pa_cons (pv 5) (pa_cons (pe_tup (pa_cons (pv 6) (pa_cons (pv 7) pa_nil))) (pa_cons (pv 8) pa_nil))))))))))))))))))), ?_⟩
    fail "z run"
    refine ⟨p, n + 15, rfl, hp, fun tE d hi H1 K1 P1 hE d0 d1 e0 e1 => ?_⟩
    fail "z run"
    refine rd_gtup hE rfl ?_
    fail "z run"
    with_reducible refine rd_par3 ?_
    fail "z run"
    refine rd_Kind (lo := -d) (hi := hi) (by omega) (by omega) fun kd H2 nk S2 k2 => ?_
    have P2 := P1.same S2
    have K2 := K1.trans fun b o _ e => S2 b o e
    fail "z run"
    obtain ⟨m, em⟩ : ∃ m, m = hi - -d + 1 := ⟨_, rfl⟩
    rw [← em]
    refine ⟨p, n + 14, 2, rfl, P2, by decide, by decide, fun r H3 r0 r1 K3 P3 => ?_⟩
    have k3 := k2.kp P2 K3
    have K3' := K2.trans K3
    fail "z run"
    refine ⟨_, _, _, rfl, ?_⟩
    generalize decide (V.int r = V.int 0) = fl
    fail "z run"
    refine ⟨p, n + 8, -d, hi, rfl, P3, by omega, by omega, by omega, by omega, fun t1 a0 a1 H4 K4 P4 s1 A1 A2 => ?_⟩
    have k4 := k3.kp P3 K4
    fail "z run"
    refine ⟨p, n + 2, -d, hi, rfl, P4, by omega, by omega, by omega, by omega, fun t2 b0 b1 H5 K5 P5 s2 B1 B2 => ?_⟩
    have k5 := k4.kp P4 K5
    have K5' := (K3'.trans K4).trans K5
    have s15 := s1.kp P4 K5
    fail "z run"
    refine ⟨kd, t1, t2, fl, -d, hi, a0, a1, b0, b1, rfl, k5, by omega, by omega, s15, s2, fun th H6 S6 R0 => ?_⟩
    rw [← em] at R0
    have k6 := k5.same S6
    have P6 := P5.same S6
    have K6 := K5'.trans fun b o _ e => S6 b o e
    have s16 := s15.same S6
    have s26 := s2.same S6
    fail "z run"
    refine rd_iteTail (fun H7 S7 => ?_) (fun tail nn => ?_) (fun tail _ => tail _ fun _ _ e => e)
    · have k7 := k6.same S7
      have P7 := P6.same S7
      have K7 := K6.trans fun b o _ e => S7 b o e
      have s17 := s16.same S7
      have s27 := s26.same S7
      have R7 := R0.same S7
      fail "z run"
      refine ⟨p, n + 1, 9, rfl, P7, by decide, by decide, fun r9 H8 q0 q1 K8 P8 => ?_⟩
      have k8 := k7.kp P7 K8
      have K8' := K7.trans K8
      have s18 := s17.kp P7 K8
      have s28 := s27.kp P7 K8
      have R8 := R7.kp P7 K8
      have i1 := s18.1
      have i2 := s28.1
      have le1 := s18.2
      have le2 := s28.2
      have bM : -(m * 4) ≤ m * (r9 - 4) ∧ m * (r9 - 4) ≤ m * 4 := by
        constructor
        · rw [← Int.mul_neg]
          exact Int.mul_le_mul_of_nonneg_left (by omega) (by omega)
        · exact Int.mul_le_mul_of_nonneg_left (by omega) (by omega)
      have dM : m ∣ m * (r9 - 4) := Int.dvd_mul_right _ _
      fail "z run"
      generalize m * (r9 - 4) = M at *
      intro t7 h7
      fail "z run"
      intro t8 h8
      fail "z run"
      refine ⟨kd, t7, t8, fl, -d, hi, a0 + M, a1 + M, b0 + M, b1 + M, rfl, (k8.same (same_new h7)).same (same_new h8), by omega, by omega, ⟨(upd_ne (ne_of_none upd_same h8)).trans upd_same, by omega⟩, ⟨upd_same, by omega⟩, fun mv H9 S9 RM => ?_⟩
      rw [← em] at RM
      have S9' := ((same_new h7).trans (same_new h8)).trans S9
      have k9 := k8.same S9'
      have P9 := P8.same S9'
      have K9 := K8'.trans fun b o _ e => S9' b o e
      have s19 := s18.same S9'
      have s29 := s28.same S9'
      have R9 := R8.same S9'
      fail "z run"
      refine rd_iteQ (fun H10 S10 => ?_) (fun tail e => ?_) (fun tail ne => ?_)
      · have k10 := k9.same S10
        have P10 := P9.same S10
        have K10 := K9.trans fun b o _ e => S10 b o e
        have s110 := s19.same S10
        have s210 := s29.same S10
        have R10 := R9.same S10
        fail "z run"
        refine ⟨kd, t2, t1, fl, -d, hi, b0, b1, a0, a1, rfl, k10, by omega, by omega, s210, s110, fun tv H11 S11 RT => ?_⟩
        rw [← em] at RT
        have k11 := k10.same S11
        have P11 := P10.same S11
        have K11 := K10.trans fun b o _ e => S11 b o e
        have s111 := s110.same S11
        have s211 := s210.same S11
        have R11 := R10.same S11
        fail "z run"
        refine rd_iteK (fun H12 S12 => ?_) (fun tail e => ?_)
        · have k12 := k11.same S12
          have P12 := P11.same S12
          have K12 := K11.trans fun b o _ e => S12 b o e
          have s112 := s111.same S12
          have s212 := s211.same S12
          have R12 := R11.same S12
          have RT12 := RT.same S12
          fail "z run"
          refine rd_iteK (fun H13 S13 => ?_) (fun tail e => ?_)
          · have R13 := R12.same S13
            fail "z run"
            intro t13 h13
            have S13' := S13.trans (same_new (o := .tup [.ref t1, .ref t2]) h13)
            rw [em] at R13
            fail "z run"
            refine ⟨p, kd, t13, t1, t2, th, fl, n, -d, hi, a0, a1, b0, b1, rfl, P12.same S13', k12.same S13', by omega, by omega, upd_same, s112.same S13', s212.same S13', by omega, by omega, by omega, by omega, R13.same (same_new h13), fun H' K' P' => ?_⟩
            exact k _ ((K12.trans fun b o _ e => S13' b o e).trans K') P'
          · rcases RT12 with ⟨rfl, _⟩ | ⟨t, x, y, rfl, ht, ⟨_, bf⟩, _⟩
            · exact absurd e (by decide)
            · fail "z run"
              refine ⟨kd, t, fl, -d, hi, x, y, rfl, k12, by omega, by omega, ht, em ▸ bf, fun H' S' => ?_⟩
              fail "z run"
              exact tail _ S'
        · have ef : fl = false := by simpa using e
          subst ef
          have sw := swapped R11 RT
          fail "z run"
          rw [show decide (V.bl (decide (tv = V.non)) = V.bl (decide (th = V.non))) = true from decide_eq_true (by simp only [sw])]
          exact tail _ fun _ _ e => e
      · subst e
        rcases moved dM R9 RM with ⟨_, rfl⟩ | ⟨u, _, _, _, e, _⟩
        · fail "z run"
          refine rd_neD .non .non (sm_none (k := 0)) (sm_none (k := 0)) (by decide) (by decide) ?_
          rw [show PyData.eqv .none .none = true by simp [PyData.eqv]]
          exact tail _ fun _ _ e => e
        · cases e
      · rcases moved dM R9 RM with ⟨e, _⟩ | ⟨u, t, x, y, rfl, rfl, hu, ht, j1, j2, j3, j4⟩
        · exact absurd e ne
        · fail "z run"
          intro t10 h10
          refine rd_neD (dp_pair ((upd_ne (ne_of_none ht h10)).trans ht)) (dp_pair upd_same) (sm_pair (by omega) (by omega) (by omega) (by omega)) (sm_pair (by omega) (by omega) (by omega) (by omega)) (by decide) (by decide) ?_
          rw [eqv_pair]
          exact tail _ (same_new h10)
    · rcases R0 with ⟨e, _⟩ | ⟨u, x, y, rfl, hu, g, _⟩
      · exact absurd e nn
      · have g' := g
        obtain ⟨⟨j1, j2, j3, j4⟩, bf⟩ := g'
        fail "z run"
        refine ⟨t1, a0, a1, x, rfl, s16, j1, j2, ?_⟩
        fail "z run"
        refine iteF ?_
        fail "z run"
        refine ⟨t2, b0, b1, y, rfl, s26, j3, j4, ?_⟩
        fail "z run"
        refine iteF ?_
        fail "z run"
        refine ⟨kd, u, fl, -d, hi, x, y, rfl, k6, by omega, by omega, hu, em ▸ bf, fun H7 S7 => ?_⟩
        fail "z run"
        refine iteF ?_
        have hu7 := S7 _ _ hu
        fail "z run"
        intro t3 h3
        have hu8 := (same_new (o := .tup [.int x, .int x]) h3) _ _ hu7
        fail "z run"
        intro t4 h4
        fail "z run"
        refine ⟨kd, t3, t4, fl, -d, hi, x, x, y, y, rfl, ((k6.same S7).same (same_new h3)).same (same_new h4), by omega, by omega, ⟨(upd_ne (ne_of_none upd_same h4)).trans upd_same, by omega⟩, ⟨upd_same, by omega⟩, fun v H8 S8 R => ?_⟩
        rw [← em] at R
        obtain ⟨t, rfl, ht⟩ := single g R
        have S8' := ((S7.trans (same_new h3)).trans (same_new h4)).trans S8
        fail "z run"
        refine rd_neD (dp_pair ht) (dp_pair (S8' _ _ hu)) (sm_pair (by omega) (by omega) (by omega) (by omega)) (sm_pair (by omega) (by omega) (by omega) (by omega)) (by decide) (by decide) ?_
        rw [eqv_pair]
        with_reducible refine rd_bl ?_
        refine iteF ?_
        exact tail _ S8'
abbrev s_law : Stmt := (top 39)
abbrev N_law : List Str := ["_law_script", "_law_k", "_law_pot", "_law_turn"]
abbrev P_law : List Str := ["_law_script"]
theorem sc_law : FnScope N_law P_law (defScope s_law) := ⟨rfl, rfl, rfl, by decide +kernel, rfl, by decide +kernel, by decide +kernel⟩

def spLaw (K : PySem.W.Frag) : Sp := fun vs H Q _ => ∃ (a : Addr) (ns : List Int), vs = [.ref a] ∧ SqL K H a (ns.map V.int) ∧ ns.length ≤ 63 ∧ ∀ H', Q (.bl true) H'
theorem rd_rng1 {tA : TA} {σ : L2.St} {H : Hp} {R : It → Hp → Prop} (k : tA σ H fun vs H1 => ∃ j : Int, vs = [.int j] ∧ -(2 ^ 62) ≤ j ∧ j < 2 ^ 62 ∧ R (Itr 0 j.toNat) H1) : iRng1 tA σ H R := k
theorem sql_kp {K : PySem.W.Frag} {H H1 H2 : Hp} {a p : Addr} {xs : List V} (h : SqL K H a xs) (hp : H p = none) (s : Same H H1) (k : Kp p H1 H2) : SqL K H2 a xs := by
  rcases h with (h | ⟨o, h⟩) | h
  · exact .inl (.inl (k _ _ (ne_of_none h hp) (s _ _ h)))
  · exact .inl (.inr ⟨o, k _ _ (ne_of_none h hp) (s _ _ h)⟩)
  · exact .inr h
theorem rep_snoc {α : Type} (i : Nat) (x : α) : List.replicate i x ++ [x] = List.replicate (i + 1) x := by
  rw [List.replicate_succ']
theorem all_rep (i : Nat) : (List.replicate i true).all id = true := by
  induction i with
  | zero => rfl
  | succ n ih => rw [List.replicate_succ, List.all_cons, ih]; rfl
theorem ok_law {f : Addr} {fd : FuncData} (F : Fun K "law" "law" s_law f fd) (T : Txt mg) (c_pot : Cal P w K mg base 1 "_law_pot_of" P__law_pot_of (spPotOf K))
    (c_right : Cal P w K mg base 7 "_law_right" P__law_right (spRight 17)) : FnG P w K mg base CX0 8 f fd P_law (spLaw K) := by
  obtain ⟨f_pot, fd_pot, G__law_pot_of, b__law_pot_of, g__law_pot_of, k__law_pot_of⟩ := c_pot
  obtain ⟨f_right, fd_right, G__law_right, b__law_right, g__law_right, k__law_right⟩ := c_right
  refine Fun_okG F sc_law (fun vs H Q E h => ?_) (fun cdv A outer s H vs Q E calm hr h => ?_)
  · obtain ⟨a, ns, rfl, _⟩ := h
    rfl
  · obtain ⟨a, ns, rfl, hS, few, k⟩ := h
    refine ⟨_, (pss_cons (ps_for PassesOwn.never rfl (pi_range1 rfl T.n_range (pa_cons (pe_callB (call_max2 rfl) (by rfl) T.n_max (by decide +kernel) (pa_cons pe_int (pa_cons (pe_callB (call_min2 rfl) (by rfl) T.n_min (by decide +kernel) (pa_cons pe_int (pa_cons (pe_callB call_len_seq (by rfl) T.n_len (by decide +kernel) (pa_cons (pv 0) pa_nil)) pa_nil))) pa_nil))) pa_nil)) (pg_name (i := 1) sc_law.nd rfl (Or.inl rfl)) (pss_cons (ps_set (i := 2) sc_law.nd rfl (Or.inr rfl) (pe_call G__law_pot_of (hr.mono (by decide)) rfl g__law_pot_of k__law_pot_of b__law_pot_of .nil pass0 (pa_cons (pv 0) (pa_cons (pv 1) pa_nil))))
      (pss_one (ps_if (pt_not (pt_val (pe_callB (cr_all rfl) (by rfl) T.n_all (by decide +kernel) (pa_cons (pe_lc (own := [("_law_turn", 3)]) (g := gName 3) (tt := tYes) rfl sc_law.nd (pi_range1 rfl T.n_range (pa_cons pe_int pa_nil)) (blkOk_by (N := N_law) (sc := defScope s_law) (by decide +kernel)) (fun _ _ _ _ _ => (pg_name (i := 3) sc_law.nd rfl (Or.inl rfl))) (fun _ _ _ _ _ => pts_nil) (fun _ _ _ _ _ => (pe_call G__law_right (hr.mono (by decide)) rfl g__law_right k__law_right b__law_right .nil pass0 (pa_cons (pv 2) pa_nil)))) pa_nil)))) (pss_one (ps_ret pe_bl)) pss_nil))))
      (pss_one (ps_ret pe_bl))), ?_⟩
    fail "z run"
    with_reducible refine rd_for ?_
    with_reducible refine rd_rng1 ?_
    fail "z run"
    refine rd_lenLs hS ?_
    fail "z run"
    refine ⟨by split <;> (try split) <;> omega, by split <;> (try split) <;> omega, for_range (lo := 0) (fun i σ H' => ∃ v1 v2 v3, σ = [some (.ref a), v1, v2, v3] ∧ SqL K H' a (ns.map V.int)) ⟨none, none, none, rfl, hS⟩ ?_ ?_⟩
    · rintro i σ H' hi ⟨v1, v2, v3, rfl, hS'⟩
      have i2 : i ≤ 2 := by
        split at hi <;> (try split at hi) <;> omega
      fail "z run"
      refine ⟨a, ns, _, rfl, hS', by omega, by omega, by omega, fun p H1 np S1 P1 => ?_⟩
      fail "z run"
      unfold tLc
      with_reducible refine rd_rng1 ?_
      fail "z run"
      refine ⟨by decide, by decide, fun D hD => lc_range (lo := 0) (n := 10) (fun j H2 => Kp p H1 H2 ∧ Pot H2 p (20 * (10 - j)) ∧ H2 D = some (.lst (List.replicate j (V.bl true)))) ?_ ?_ ?_⟩
      · exact ⟨Kp.refl.new hD, (P1.new hD).le (by decide), upd_same⟩
      · rintro j H2 hj ⟨K2, P2, hL⟩
        have nDp : D ≠ p := fun e => by
          obtain ⟨x, y, z, ep, _⟩ := P1
          rw [e, ep] at hD
          cases hD
        have e20 : 20 * (10 - j) = (20 * (10 - (j + 1)) + 3) + 17 := by omega
        rw [e20] at P2
        fail "z run"
        refine ⟨rfl, ?_⟩
        unfold tYes
        refine iteT ?_
        fail "z run"
        refine ⟨p, _, rfl, P2, fun H4 K4 P4 => ?_⟩
        have hL4 := K4 _ _ nDp hL
        refine ⟨_, hL4, Nat.lt_of_le_of_lt (by rw [List.length_replicate]; exact Nat.le_of_lt hj) (small1000 (by decide)), fun b o nb e => ?_, ?_, ?_⟩
        · rw [upd_ne (ne_of_none e hD)]
          exact K4 _ _ nb (K2 _ _ nb e)
        · obtain ⟨x, y, z, ep, r⟩ := P4.le (m := 20 * (10 - (j + 1))) (by omega)
          exact ⟨x, y, z, (upd_ne nDp.symm).trans ep, r⟩
        · rw [rep_snoc]
          exact upd_same
      · rintro H2 ⟨K2, P2, hL⟩
        fail "z run"
        refine ⟨D, List.replicate 10 true, rfl, SqL.of (by rw [List.map_replicate]; exact hL), ?_⟩
        rw [all_rep]
        fail "z run"
        refine iteF ?_
        fail "z run"
        exact ⟨_, _, _, rfl, sql_kp hS' np S1 K2⟩
    · rintro σ H' ⟨v1, v2, v3, rfl, hS'⟩
      fail "z run"
      exact k H'
end
theorem all_mk {l : PySem.W.OpenLaw} {w : World} {K : PySem.W.Frag} {h : Heap} {mg : Str → Option Value} {fa : Addr}
    {C : Addr}
    {fis_integer : Addr} {odis_integer anis_integer : Option Addr} {slis_integer : Array (Option Value)} {ocis_integer kVis_integer dcis_integer pmis_integer cdis_integer ctis_integer : Value}
    {fKind___init__ : Addr} {odKind___init__ anKind___init__ : Option Addr} {slKind___init__ : Array (Option Value)} {ocKind___init__ kVKind___init__ dcKind___init__ pmKind___init__ cdKind___init__ ctKind___init__ : Value}
    {fKind_cut : Addr} {odKind_cut anKind_cut : Option Addr} {slKind_cut : Array (Option Value)} {ocKind_cut kVKind_cut dcKind_cut pmKind_cut cdKind_cut ctKind_cut : Value}
    {fgreater : Addr} {odgreater angreater : Option Addr} {slgreater : Array (Option Value)} {ocgreater kVgreater dcgreater pmgreater cdgreater ctgreater : Value}
    {fis_span : Addr} {odis_span anis_span : Option Addr} {slis_span : Array (Option Value)} {ocis_span kVis_span dcis_span pmis_span cdis_span ctis_span : Value}
    {f_check_spans : Addr} {od_check_spans an_check_spans : Option Addr} {sl_check_spans : Array (Option Value)} {oc_check_spans kV_check_spans dc_check_spans pm_check_spans cd_check_spans ct_check_spans : Value}
    {f_next_like : Addr} {od_next_like an_next_like : Option Addr} {sl_next_like : Array (Option Value)} {oc_next_like kV_next_like dc_next_like pm_next_like cd_next_like ct_next_like : Value}
    {f_least : Addr} {od_least an_least : Option Addr} {sl_least : Array (Option Value)} {oc_least kV_least dc_least pm_least cd_least ct_least : Value}
    {f_least_turned : Addr} {od_least_turned an_least_turned : Option Addr} {sl_least_turned : Array (Option Value)} {oc_least_turned kV_least_turned dc_least_turned pm_least_turned cd_least_turned ct_least_turned : Value}
    {f_least_against : Addr} {od_least_against an_least_against : Option Addr} {sl_least_against : Array (Option Value)} {oc_least_against kV_least_against dc_least_against pm_least_against cd_least_against ct_least_against : Value}
    {fordered : Addr} {odordered anordered : Option Addr} {slordered : Array (Option Value)} {ocordered kVordered dcordered pmordered cdordered ctordered : Value}
    {falike : Addr} {odalike analike : Option Addr} {slalike : Array (Option Value)} {ocalike kValike dcalike pmalike cdalike ctalike : Value}
    {f_law_pot_of : Addr} {od_law_pot_of an_law_pot_of : Option Addr} {sl_law_pot_of : Array (Option Value)} {oc_law_pot_of kV_law_pot_of dc_law_pot_of pm_law_pot_of cd_law_pot_of ct_law_pot_of : Value}
    {f_law_take : Addr} {od_law_take an_law_take : Option Addr} {sl_law_take : Array (Option Value)} {oc_law_take kV_law_take dc_law_take pm_law_take cd_law_take ct_law_take : Value}
    {f_law_of : Addr} {od_law_of an_law_of : Option Addr} {sl_law_of : Array (Option Value)} {oc_law_of kV_law_of dc_law_of pm_law_of cd_law_of ct_law_of : Value}
    {f_law_kind_ends : Addr} {od_law_kind_ends an_law_kind_ends : Option Addr} {sl_law_kind_ends : Array (Option Value)} {oc_law_kind_ends kV_law_kind_ends dc_law_kind_ends pm_law_kind_ends cd_law_kind_ends ct_law_kind_ends : Value}
    {f_law_span : Addr} {od_law_span an_law_span : Option Addr} {sl_law_span : Array (Option Value)} {oc_law_span kV_law_span dc_law_span pm_law_span cd_law_span ct_law_span : Value}
    {f_law_breaks : Addr} {od_law_breaks an_law_breaks : Option Addr} {sl_law_breaks : Array (Option Value)} {oc_law_breaks kV_law_breaks dc_law_breaks pm_law_breaks cd_law_breaks ct_law_breaks : Value}
    {f_law_told : Addr} {od_law_told an_law_told : Option Addr} {sl_law_told : Array (Option Value)} {oc_law_told kV_law_told dc_law_told pm_law_told cd_law_told ct_law_told : Value}
    {f_law_is_in : Addr} {od_law_is_in an_law_is_in : Option Addr} {sl_law_is_in : Array (Option Value)} {oc_law_is_in kV_law_is_in dc_law_is_in pm_law_is_in cd_law_is_in ct_law_is_in : Value}
    {f_law_parted_right : Addr} {od_law_parted_right an_law_parted_right : Option Addr} {sl_law_parted_right : Array (Option Value)} {oc_law_parted_right kV_law_parted_right dc_law_parted_right pm_law_parted_right cd_law_parted_right ct_law_parted_right : Value}
    {f_law_right : Addr} {od_law_right an_law_right : Option Addr} {sl_law_right : Array (Option Value)} {oc_law_right kV_law_right dc_law_right pm_law_right cd_law_right ct_law_right : Value}
    {flaw : Addr} {odlaw anlaw : Option Addr} {sllaw : Array (Option Value)} {oclaw kVlaw dclaw pmlaw cdlaw ctlaw : Value}
    (X : K.In h) (G : h.Ns mainGlobals mg) (hfa : mg "law" = some (.ref fa))
    (haC : PySem.W.nsIn K mainGlobals "Kind" = some (some (.ref C)))
    (hpg : PySem.W.plainGet K C Str.empty = true)
    (hhd : PySem.W.hasDictIn K C = true)
    (hpo : PySem.W.plainOver K C = true)
    (hsa : PySem.W.findIn K (.ref C) "__setattr__" = some (some (.builtin "object.__setattr__")))
    (hmk : PySem.W.makesIn K C = true)
    (hkc : PySem.W.keepIn K (.ref C) = true)
    (hnlow : PySem.W.findIn K (.ref C) "low" = some none)
    (hnhigh : PySem.W.findIn K (.ref C) "high" = some none)
    (hnsize : PySem.W.findIn K (.ref C) "size" = some none)
    (hais_integer : PySem.W.nsIn K mainGlobals "is_integer" = some (some (.ref fis_integer)))
    (hlis_integer : K.lookup fis_integer = some ⟨ocis_integer, odis_integer, .func (PySem.W.fnOf "is_integer" "is_integer" (defArgs s_is_integer) (defBody s_is_integer) (defScope s_is_integer) .none kVis_integer dcis_integer pmis_integer anis_integer cdis_integer ctis_integer), slis_integer⟩)
    (hcis_integer : PySem.W.codeIn K cdis_integer "is_integer" = true)
    (hkis_integer : PySem.W.keepIn K (.ref fis_integer) = true)
    (haKind___init__ : PySem.W.findIn K (.ref C) "__init__" = some (some (.ref fKind___init__)))
    (hiKind___init__ : PySem.W.isFn K (.ref fKind___init__) = true)
    (hlKind___init__ : K.lookup fKind___init__ = some ⟨ocKind___init__, odKind___init__, .func (PySem.W.fnOf "__init__" "Kind.__init__" (defArgs s_Kind___init__) (defBody s_Kind___init__) (defScope s_Kind___init__) .none kVKind___init__ dcKind___init__ pmKind___init__ anKind___init__ cdKind___init__ ctKind___init__), slKind___init__⟩)
    (hcKind___init__ : PySem.W.codeIn K cdKind___init__ "Kind.__init__" = true)
    (hkKind___init__ : PySem.W.keepIn K (.ref fKind___init__) = true)
    (haKind_cut : PySem.W.findIn K (.ref C) "cut" = some (some (.ref fKind_cut)))
    (hiKind_cut : PySem.W.isFn K (.ref fKind_cut) = true)
    (hlKind_cut : K.lookup fKind_cut = some ⟨ocKind_cut, odKind_cut, .func (PySem.W.fnOf "cut" "Kind.cut" (defArgs s_Kind_cut) (defBody s_Kind_cut) (defScope s_Kind_cut) .none kVKind_cut dcKind_cut pmKind_cut anKind_cut cdKind_cut ctKind_cut), slKind_cut⟩)
    (hcKind_cut : PySem.W.codeIn K cdKind_cut "Kind.cut" = true)
    (hkKind_cut : PySem.W.keepIn K (.ref fKind_cut) = true)
    (hagreater : PySem.W.nsIn K mainGlobals "greater" = some (some (.ref fgreater)))
    (hlgreater : K.lookup fgreater = some ⟨ocgreater, odgreater, .func (PySem.W.fnOf "greater" "greater" (defArgs s_greater) (defBody s_greater) (defScope s_greater) .none kVgreater dcgreater pmgreater angreater cdgreater ctgreater), slgreater⟩)
    (hcgreater : PySem.W.codeIn K cdgreater "greater" = true)
    (hkgreater : PySem.W.keepIn K (.ref fgreater) = true)
    (hais_span : PySem.W.nsIn K mainGlobals "is_span" = some (some (.ref fis_span)))
    (hlis_span : K.lookup fis_span = some ⟨ocis_span, odis_span, .func (PySem.W.fnOf "is_span" "is_span" (defArgs s_is_span) (defBody s_is_span) (defScope s_is_span) .none kVis_span dcis_span pmis_span anis_span cdis_span ctis_span), slis_span⟩)
    (hcis_span : PySem.W.codeIn K cdis_span "is_span" = true)
    (hkis_span : PySem.W.keepIn K (.ref fis_span) = true)
    (ha_check_spans : PySem.W.nsIn K mainGlobals "_check_spans" = some (some (.ref f_check_spans)))
    (hl_check_spans : K.lookup f_check_spans = some ⟨oc_check_spans, od_check_spans, .func (PySem.W.fnOf "_check_spans" "_check_spans" (defArgs s__check_spans) (defBody s__check_spans) (defScope s__check_spans) .none kV_check_spans dc_check_spans pm_check_spans an_check_spans cd_check_spans ct_check_spans), sl_check_spans⟩)
    (hc_check_spans : PySem.W.codeIn K cd_check_spans "_check_spans" = true)
    (hk_check_spans : PySem.W.keepIn K (.ref f_check_spans) = true)
    (ha_next_like : PySem.W.nsIn K mainGlobals "_next_like" = some (some (.ref f_next_like)))
    (hl_next_like : K.lookup f_next_like = some ⟨oc_next_like, od_next_like, .func (PySem.W.fnOf "_next_like" "_next_like" (defArgs s__next_like) (defBody s__next_like) (defScope s__next_like) .none kV_next_like dc_next_like pm_next_like an_next_like cd_next_like ct_next_like), sl_next_like⟩)
    (hc_next_like : PySem.W.codeIn K cd_next_like "_next_like" = true)
    (hk_next_like : PySem.W.keepIn K (.ref f_next_like) = true)
    (ha_least : PySem.W.nsIn K mainGlobals "_least" = some (some (.ref f_least)))
    (hl_least : K.lookup f_least = some ⟨oc_least, od_least, .func (PySem.W.fnOf "_least" "_least" (defArgs s__least) (defBody s__least) (defScope s__least) .none kV_least dc_least pm_least an_least cd_least ct_least), sl_least⟩)
    (hc_least : PySem.W.codeIn K cd_least "_least" = true)
    (hk_least : PySem.W.keepIn K (.ref f_least) = true)
    (ha_least_turned : PySem.W.nsIn K mainGlobals "_least_turned" = some (some (.ref f_least_turned)))
    (hl_least_turned : K.lookup f_least_turned = some ⟨oc_least_turned, od_least_turned, .func (PySem.W.fnOf "_least_turned" "_least_turned" (defArgs s__least_turned) (defBody s__least_turned) (defScope s__least_turned) .none kV_least_turned dc_least_turned pm_least_turned an_least_turned cd_least_turned ct_least_turned), sl_least_turned⟩)
    (hc_least_turned : PySem.W.codeIn K cd_least_turned "_least_turned" = true)
    (hk_least_turned : PySem.W.keepIn K (.ref f_least_turned) = true)
    (ha_least_against : PySem.W.nsIn K mainGlobals "_least_against" = some (some (.ref f_least_against)))
    (hl_least_against : K.lookup f_least_against = some ⟨oc_least_against, od_least_against, .func (PySem.W.fnOf "_least_against" "_least_against" (defArgs s__least_against) (defBody s__least_against) (defScope s__least_against) .none kV_least_against dc_least_against pm_least_against an_least_against cd_least_against ct_least_against), sl_least_against⟩)
    (hc_least_against : PySem.W.codeIn K cd_least_against "_least_against" = true)
    (hk_least_against : PySem.W.keepIn K (.ref f_least_against) = true)
    (haordered : PySem.W.nsIn K mainGlobals "ordered" = some (some (.ref fordered)))
    (hlordered : K.lookup fordered = some ⟨ocordered, odordered, .func (PySem.W.fnOf "ordered" "ordered" (defArgs s_ordered) (defBody s_ordered) (defScope s_ordered) .none kVordered dcordered pmordered anordered cdordered ctordered), slordered⟩)
    (hcordered : PySem.W.codeIn K cdordered "ordered" = true)
    (hkordered : PySem.W.keepIn K (.ref fordered) = true)
    (haalike : PySem.W.nsIn K mainGlobals "alike" = some (some (.ref falike)))
    (hlalike : K.lookup falike = some ⟨ocalike, odalike, .func (PySem.W.fnOf "alike" "alike" (defArgs s_alike) (defBody s_alike) (defScope s_alike) .none kValike dcalike pmalike analike cdalike ctalike), slalike⟩)
    (hcalike : PySem.W.codeIn K cdalike "alike" = true)
    (hkalike : PySem.W.keepIn K (.ref falike) = true)
    (ha_law_pot_of : PySem.W.nsIn K mainGlobals "_law_pot_of" = some (some (.ref f_law_pot_of)))
    (hl_law_pot_of : K.lookup f_law_pot_of = some ⟨oc_law_pot_of, od_law_pot_of, .func (PySem.W.fnOf "_law_pot_of" "_law_pot_of" (defArgs s__law_pot_of) (defBody s__law_pot_of) (defScope s__law_pot_of) .none kV_law_pot_of dc_law_pot_of pm_law_pot_of an_law_pot_of cd_law_pot_of ct_law_pot_of), sl_law_pot_of⟩)
    (hc_law_pot_of : PySem.W.codeIn K cd_law_pot_of "_law_pot_of" = true)
    (hk_law_pot_of : PySem.W.keepIn K (.ref f_law_pot_of) = true)
    (ha_law_take : PySem.W.nsIn K mainGlobals "_law_take" = some (some (.ref f_law_take)))
    (hl_law_take : K.lookup f_law_take = some ⟨oc_law_take, od_law_take, .func (PySem.W.fnOf "_law_take" "_law_take" (defArgs s__law_take) (defBody s__law_take) (defScope s__law_take) .none kV_law_take dc_law_take pm_law_take an_law_take cd_law_take ct_law_take), sl_law_take⟩)
    (hc_law_take : PySem.W.codeIn K cd_law_take "_law_take" = true)
    (hk_law_take : PySem.W.keepIn K (.ref f_law_take) = true)
    (ha_law_of : PySem.W.nsIn K mainGlobals "_law_of" = some (some (.ref f_law_of)))
    (hl_law_of : K.lookup f_law_of = some ⟨oc_law_of, od_law_of, .func (PySem.W.fnOf "_law_of" "_law_of" (defArgs s__law_of) (defBody s__law_of) (defScope s__law_of) .none kV_law_of dc_law_of pm_law_of an_law_of cd_law_of ct_law_of), sl_law_of⟩)
    (hc_law_of : PySem.W.codeIn K cd_law_of "_law_of" = true)
    (hk_law_of : PySem.W.keepIn K (.ref f_law_of) = true)
    (ha_law_kind_ends : PySem.W.nsIn K mainGlobals "_law_kind_ends" = some (some (.ref f_law_kind_ends)))
    (hl_law_kind_ends : K.lookup f_law_kind_ends = some ⟨oc_law_kind_ends, od_law_kind_ends, .func (PySem.W.fnOf "_law_kind_ends" "_law_kind_ends" (defArgs s__law_kind_ends) (defBody s__law_kind_ends) (defScope s__law_kind_ends) .none kV_law_kind_ends dc_law_kind_ends pm_law_kind_ends an_law_kind_ends cd_law_kind_ends ct_law_kind_ends), sl_law_kind_ends⟩)
    (hc_law_kind_ends : PySem.W.codeIn K cd_law_kind_ends "_law_kind_ends" = true)
    (hk_law_kind_ends : PySem.W.keepIn K (.ref f_law_kind_ends) = true)
    (ha_law_span : PySem.W.nsIn K mainGlobals "_law_span" = some (some (.ref f_law_span)))
    (hl_law_span : K.lookup f_law_span = some ⟨oc_law_span, od_law_span, .func (PySem.W.fnOf "_law_span" "_law_span" (defArgs s__law_span) (defBody s__law_span) (defScope s__law_span) .none kV_law_span dc_law_span pm_law_span an_law_span cd_law_span ct_law_span), sl_law_span⟩)
    (hc_law_span : PySem.W.codeIn K cd_law_span "_law_span" = true)
    (hk_law_span : PySem.W.keepIn K (.ref f_law_span) = true)
    (ha_law_breaks : PySem.W.nsIn K mainGlobals "_law_breaks" = some (some (.ref f_law_breaks)))
    (hl_law_breaks : K.lookup f_law_breaks = some ⟨oc_law_breaks, od_law_breaks, .func (PySem.W.fnOf "_law_breaks" "_law_breaks" (defArgs s__law_breaks) (defBody s__law_breaks) (defScope s__law_breaks) .none kV_law_breaks dc_law_breaks pm_law_breaks an_law_breaks cd_law_breaks ct_law_breaks), sl_law_breaks⟩)
    (hc_law_breaks : PySem.W.codeIn K cd_law_breaks "_law_breaks" = true)
    (hk_law_breaks : PySem.W.keepIn K (.ref f_law_breaks) = true)
    (ha_law_told : PySem.W.nsIn K mainGlobals "_law_told" = some (some (.ref f_law_told)))
    (hl_law_told : K.lookup f_law_told = some ⟨oc_law_told, od_law_told, .func (PySem.W.fnOf "_law_told" "_law_told" (defArgs s__law_told) (defBody s__law_told) (defScope s__law_told) .none kV_law_told dc_law_told pm_law_told an_law_told cd_law_told ct_law_told), sl_law_told⟩)
    (hc_law_told : PySem.W.codeIn K cd_law_told "_law_told" = true)
    (hk_law_told : PySem.W.keepIn K (.ref f_law_told) = true)
    (ha_law_is_in : PySem.W.nsIn K mainGlobals "_law_is_in" = some (some (.ref f_law_is_in)))
    (hl_law_is_in : K.lookup f_law_is_in = some ⟨oc_law_is_in, od_law_is_in, .func (PySem.W.fnOf "_law_is_in" "_law_is_in" (defArgs s__law_is_in) (defBody s__law_is_in) (defScope s__law_is_in) .none kV_law_is_in dc_law_is_in pm_law_is_in an_law_is_in cd_law_is_in ct_law_is_in), sl_law_is_in⟩)
    (hc_law_is_in : PySem.W.codeIn K cd_law_is_in "_law_is_in" = true)
    (hk_law_is_in : PySem.W.keepIn K (.ref f_law_is_in) = true)
    (ha_law_parted_right : PySem.W.nsIn K mainGlobals "_law_parted_right" = some (some (.ref f_law_parted_right)))
    (hl_law_parted_right : K.lookup f_law_parted_right = some ⟨oc_law_parted_right, od_law_parted_right, .func (PySem.W.fnOf "_law_parted_right" "_law_parted_right" (defArgs s__law_parted_right) (defBody s__law_parted_right) (defScope s__law_parted_right) .none kV_law_parted_right dc_law_parted_right pm_law_parted_right an_law_parted_right cd_law_parted_right ct_law_parted_right), sl_law_parted_right⟩)
    (hc_law_parted_right : PySem.W.codeIn K cd_law_parted_right "_law_parted_right" = true)
    (hk_law_parted_right : PySem.W.keepIn K (.ref f_law_parted_right) = true)
    (ha_law_right : PySem.W.nsIn K mainGlobals "_law_right" = some (some (.ref f_law_right)))
    (hl_law_right : K.lookup f_law_right = some ⟨oc_law_right, od_law_right, .func (PySem.W.fnOf "_law_right" "_law_right" (defArgs s__law_right) (defBody s__law_right) (defScope s__law_right) .none kV_law_right dc_law_right pm_law_right an_law_right cd_law_right ct_law_right), sl_law_right⟩)
    (hc_law_right : PySem.W.codeIn K cd_law_right "_law_right" = true)
    (hk_law_right : PySem.W.keepIn K (.ref f_law_right) = true)
    (halaw : PySem.W.nsIn K mainGlobals "law" = some (some (.ref flaw)))
    (hllaw : K.lookup flaw = some ⟨oclaw, odlaw, .func (PySem.W.fnOf "law" "law" (defArgs s_law) (defBody s_law) (defScope s_law) .none kVlaw dclaw pmlaw anlaw cdlaw ctlaw), sllaw⟩)
    (hclaw : PySem.W.codeIn K cdlaw "law" = true)
    (hklaw : PySem.W.keepIn K (.ref flaw) = true)
    (hzint : PySem.W.nsIn K mainGlobals "int" = some none)
    (hzlen : PySem.W.nsIn K mainGlobals "len" = some none)
    (hzabs : PySem.W.nsIn K mainGlobals "abs" = some none)
    (hzbool : PySem.W.nsIn K mainGlobals "bool" = some none)
    (hztuple : PySem.W.nsIn K mainGlobals "tuple" = some none)
    (hzisinstance : PySem.W.nsIn K mainGlobals "isinstance" = some none)
    (hzrange : PySem.W.nsIn K mainGlobals "range" = some none)
    (hzmax : PySem.W.nsIn K mainGlobals "max" = some none)
    (hzmin : PySem.W.nsIn K mainGlobals "min" = some none)
    (hzall : PySem.W.nsIn K mainGlobals "all" = some none)
    (hzrepr : PySem.W.nsIn K mainGlobals "repr" = some none) :
    ∃ fd : FuncData, (∀ (s : Shared) (v : Value), BindsTo s fd ⟨[v], []⟩ [("_law_script", v)]) ∧ ∀ base : Heap, K.In base → base.Ns mainGlobals mg → FnG l.prog w K mg base CX0 8 fa fd P_law (spLaw K) := by
  have e := hfa.symm.trans (PySem.W.mg_of X G halaw)
  cases e
  have T : Txt mg := ⟨PySem.W.mg_none_of X G hzint, PySem.W.mg_none_of X G hzlen, PySem.W.mg_none_of X G hzabs, PySem.W.mg_none_of X G hzbool, PySem.W.mg_none_of X G hztuple, PySem.W.mg_none_of X G hzisinstance, PySem.W.mg_none_of X G hzrange, PySem.W.mg_none_of X G hzmax, PySem.W.mg_none_of X G hzmin, PySem.W.mg_none_of X G hzall, PySem.W.mg_none_of X G hzrepr⟩
  have KT : KindT K C := ⟨⟨hpg, hhd, hpo, hsa⟩, hnlow, hnhigh, hnsize⟩
  have Fis_integer := fun_mk (st := s_is_integer) hlis_integer hcis_integer hkis_integer
  have bis_integer := Fis_integer.binds (ps := P_is_integer) fun _ _ _ _ _ _ us hl => match us, hl with | [_], _ => rfl
  have FKind___init__ := fun_mk (st := s_Kind___init__) hlKind___init__ hcKind___init__ hkKind___init__
  have bKind___init__ := FKind___init__.binds (ps := P_Kind___init__) fun _ _ _ _ _ _ us hl => match us, hl with | [_, _, _], _ => rfl
  have FKind_cut := fun_mk (st := s_Kind_cut) hlKind_cut hcKind_cut hkKind_cut
  have bKind_cut := FKind_cut.binds (ps := P_Kind_cut) fun _ _ _ _ _ _ us hl => match us, hl with | [_, _], _ => rfl
  have Fgreater := fun_mk (st := s_greater) hlgreater hcgreater hkgreater
  have bgreater := Fgreater.binds (ps := P_greater) fun _ _ _ _ _ _ us hl => match us, hl with | [_, _], _ => rfl
  have Fis_span := fun_mk (st := s_is_span) hlis_span hcis_span hkis_span
  have bis_span := Fis_span.binds (ps := P_is_span) fun _ _ _ _ _ _ us hl => match us, hl with | [_], _ => rfl
  have F_check_spans := fun_mk (st := s__check_spans) hl_check_spans hc_check_spans hk_check_spans
  have b_check_spans := F_check_spans.binds (ps := P__check_spans) fun _ _ _ _ _ _ us hl => match us, hl with | [_, _], _ => rfl
  have F_next_like := fun_mk (st := s__next_like) hl_next_like hc_next_like hk_next_like
  have b_next_like := F_next_like.binds (ps := P__next_like) fun _ _ _ _ _ _ us hl => match us, hl with | [_, _, _], _ => rfl
  have F_least := fun_mk (st := s__least) hl_least hc_least hk_least
  have b_least := F_least.binds (ps := P__least) fun _ _ _ _ _ _ us hl => match us, hl with | [_, _, _], _ => rfl
  have F_least_turned := fun_mk (st := s__least_turned) hl_least_turned hc_least_turned hk_least_turned
  have b_least_turned := F_least_turned.binds (ps := P__least_turned) fun _ _ _ _ _ _ us hl => match us, hl with | [_, _, _], _ => rfl
  have F_least_against := fun_mk (st := s__least_against) hl_least_against hc_least_against hk_least_against
  have b_least_against := F_least_against.binds (ps := P__least_against) fun _ _ _ _ _ _ us hl => match us, hl with | [_, _, _], _ => rfl
  have Fordered := fun_mk (st := s_ordered) hlordered hcordered hkordered
  have bordered := Fordered.binds (ps := P_ordered) fun _ _ _ _ _ _ us hl => match us, hl with | [_, _, _], _ => rfl
  have Falike := fun_mk (st := s_alike) hlalike hcalike hkalike
  have balike := Falike.binds (ps := P_alike) fun _ _ _ _ _ _ us hl => match us, hl with | [_, _, _], _ => rfl
  have F_law_pot_of := fun_mk (st := s__law_pot_of) hl_law_pot_of hc_law_pot_of hk_law_pot_of
  have b_law_pot_of := F_law_pot_of.binds (ps := P__law_pot_of) fun _ _ _ _ _ _ us hl => match us, hl with | [_, _], _ => rfl
  have F_law_take := fun_mk (st := s__law_take) hl_law_take hc_law_take hk_law_take
  have b_law_take := F_law_take.binds (ps := P__law_take) fun _ _ _ _ _ _ us hl => match us, hl with | [_, _], _ => rfl
  have F_law_of := fun_mk (st := s__law_of) hl_law_of hc_law_of hk_law_of
  have b_law_of := F_law_of.binds (ps := P__law_of) fun _ _ _ _ _ _ us hl => match us, hl with | [_, _], _ => rfl
  have F_law_kind_ends := fun_mk (st := s__law_kind_ends) hl_law_kind_ends hc_law_kind_ends hk_law_kind_ends
  have b_law_kind_ends := F_law_kind_ends.binds (ps := P__law_kind_ends) fun _ _ _ _ _ _ us hl => match us, hl with | [_], _ => rfl
  have F_law_span := fun_mk (st := s__law_span) hl_law_span hc_law_span hk_law_span
  have b_law_span := F_law_span.binds (ps := P__law_span) fun _ _ _ _ _ _ us hl => match us, hl with | [_, _, _], _ => rfl
  have F_law_breaks := fun_mk (st := s__law_breaks) hl_law_breaks hc_law_breaks hk_law_breaks
  have b_law_breaks := F_law_breaks.binds (ps := P__law_breaks) fun _ _ _ _ _ _ us hl => match us, hl with | [_, _, _], _ => rfl
  have F_law_told := fun_mk (st := s__law_told) hl_law_told hc_law_told hk_law_told
  have b_law_told := F_law_told.binds (ps := P__law_told) fun _ _ _ _ _ _ us hl => match us, hl with | [_, _, _, _], _ => rfl
  have F_law_is_in := fun_mk (st := s__law_is_in) hl_law_is_in hc_law_is_in hk_law_is_in
  have b_law_is_in := F_law_is_in.binds (ps := P__law_is_in) fun _ _ _ _ _ _ us hl => match us, hl with | [_, _], _ => rfl
  have F_law_parted_right := fun_mk (st := s__law_parted_right) hl_law_parted_right hc_law_parted_right hk_law_parted_right
  have b_law_parted_right := F_law_parted_right.binds (ps := P__law_parted_right) fun _ _ _ _ _ _ us hl => match us, hl with | [_, _, _, _, _], _ => rfl
  have F_law_right := fun_mk (st := s__law_right) hl_law_right hc_law_right hk_law_right
  have b_law_right := F_law_right.binds (ps := P__law_right) fun _ _ _ _ _ _ us hl => match us, hl with | [_], _ => rfl
  have Flaw := fun_mk (st := s_law) hllaw hclaw hklaw
  refine ⟨PySem.W.fnOf "law" "law" (defArgs s_law) (defBody s_law) (defScope s_law) .none kVlaw dclaw pmlaw anlaw cdlaw ctlaw, fun s v => .of_eq rfl, fun base _ _ => ?_⟩
  have cis_integer : Cal l.prog w K mg base 1 "is_integer" P_is_integer spIsInt := ⟨fis_integer, _, ok_is_integer Fis_integer T, bis_integer, PySem.W.mg_of X G hais_integer, hkis_integer⟩
  have cKind : CalK l.prog w K mg base C := ⟨fKind___init__, _, ⟨hmk, haKind___init__, hiKind___init__, hkc⟩, ok_Kind FKind___init__ KT cis_integer, bKind___init__, PySem.W.mg_of X G haC⟩
  have ccut : CalM l.prog w K mg base C "cut" P_Kind_cut (spCutM C) := ⟨fKind_cut, _, ⟨haKind_cut, hiKind_cut, hkKind_cut⟩, ok_cutM FKind_cut KT cis_integer, bKind_cut⟩
  have cgreater : Cal l.prog w K mg base 1 "greater" P_greater spGreater := ⟨fgreater, _, ok_greater Fgreater, bgreater, PySem.W.mg_of X G hagreater, hkgreater⟩
  have cis_span : Cal l.prog w K mg base 2 "is_span" P_is_span spIsSpan := ⟨fis_span, _, ok_is_span Fis_span T cis_integer, bis_span, PySem.W.mg_of X G hais_span, hkis_span⟩
  have c_check_spans : Cal l.prog w K mg base 3 "_check_spans" P__check_spans spCheck := ⟨f_check_spans, _, ok_check F_check_spans cis_span, b_check_spans, PySem.W.mg_of X G ha_check_spans, hk_check_spans⟩
  have c_next_like : Cal l.prog w K mg base 1 "_next_like" P__next_like (spNext C) := ⟨f_next_like, _, ok_next F_next_like KT, b_next_like, PySem.W.mg_of X G ha_next_like, hk_next_like⟩
  have c_least : Cal l.prog w K mg base 1 "_least" P__least spLeast := ⟨f_least, _, ok_least F_least, b_least, PySem.W.mg_of X G ha_least, hk_least⟩
  have c_least_turned : Cal l.prog w K mg base 2 "_least_turned" P__least_turned (spTurned C) := ⟨f_least_turned, _, ok_turned F_least_turned KT c_next_like cgreater, b_least_turned, PySem.W.mg_of X G ha_least_turned, hk_least_turned⟩
  have c_least_against : Cal l.prog w K mg base 2 "_least_against" P__least_against (spAgainst C) := ⟨f_least_against, _, ok_against F_least_against KT c_next_like cgreater, b_least_against, PySem.W.mg_of X G ha_least_against, hk_least_against⟩
  have cordered : Cal l.prog w K mg base 4 "ordered" P_ordered (spOrdered C) := ⟨fordered, _, ok_ordered Fordered KT c_check_spans c_least_turned c_least_against c_least ccut, bordered, PySem.W.mg_of X G haordered, hkordered⟩
  have c_law_take : Cal l.prog w K mg base 1 "_law_take" P__law_take spTake := ⟨f_law_take, _, ok_take F_law_take T, b_law_take, PySem.W.mg_of X G ha_law_take, hk_law_take⟩
  have c_law_of : Cal l.prog w K mg base 2 "_law_of" P__law_of spOf := ⟨f_law_of, _, ok_of F_law_of T c_law_take, b_law_of, PySem.W.mg_of X G ha_law_of, hk_law_of⟩
  have c_law_pot_of : Cal l.prog w K mg base 1 "_law_pot_of" P__law_pot_of (spPotOf K) := ⟨f_law_pot_of, _, ok_pot_of F_law_pot_of T, b_law_pot_of, PySem.W.mg_of X G ha_law_pot_of, hk_law_pot_of⟩
  have calike : Cal l.prog w K mg base 4 "alike" P_alike (spAlike C) := ⟨falike, _, ok_alike Falike KT c_check_spans c_next_like c_least, balike, PySem.W.mg_of X G haalike, hkalike⟩
  have c_law_kind_ends : Cal l.prog w K mg base 3 "_law_kind_ends" P__law_kind_ends spEnds := ⟨f_law_kind_ends, _, ok_ends F_law_kind_ends c_law_of, b_law_kind_ends, PySem.W.mg_of X G ha_law_kind_ends, hk_law_kind_ends⟩
  have c_law_span : Cal l.prog w K mg base 3 "_law_span" P__law_span spSpan7 := ⟨f_law_span, _, ok_span7 F_law_span T c_law_take c_law_of, b_law_span, PySem.W.mg_of X G ha_law_span, hk_law_span⟩
  have c_law_breaks : Cal l.prog w K mg base 3 "_law_breaks" P__law_breaks (spBreaks C) := ⟨f_law_breaks, _, ok_breaks F_law_breaks KT ccut, b_law_breaks, PySem.W.mg_of X G ha_law_breaks, hk_law_breaks⟩
  have c_law_told : Cal l.prog w K mg base 5 "_law_told" P__law_told (spTold C) := ⟨f_law_told, _, ok_told F_law_told calike cordered, b_law_told, PySem.W.mg_of X G ha_law_told, hk_law_told⟩
  have c_law_is_in : Cal l.prog w K mg base 1 "_law_is_in" P__law_is_in spIn := ⟨f_law_is_in, _, ok_in F_law_is_in, b_law_is_in, PySem.W.mg_of X G ha_law_is_in, hk_law_is_in⟩
  have c_law_parted_right : Cal l.prog w K mg base 6 "_law_parted_right" P__law_parted_right (spParted C) := ⟨f_law_parted_right, _, ok_parted F_law_parted_right T c_law_take c_law_told, b_law_parted_right, PySem.W.mg_of X G ha_law_parted_right, hk_law_parted_right⟩
  have c_law_right : Cal l.prog w K mg base 7 "_law_right" P__law_right (spRight 17) := ⟨f_law_right, _, ok_right F_law_right T c_law_take c_law_kind_ends cKind c_law_span c_law_told c_law_is_in c_law_breaks c_law_parted_right, b_law_right, PySem.W.mg_of X G ha_law_right, hk_law_right⟩
  exact ok_law Flaw T c_law_pot_of c_law_right
end Zg

open PySem PySem.W PyProof.Rows in
set_option maxRecDepth 100000 in
set_option maxHeartbeats 0 in
theorem PySem.Challenge.cw_widerkeys_k07_windows_moved_and_parted_holds : PySem.Challenge.rw_widerkeys_k07_windows_moved_and_parted.Holds := by
  w_on; o_law; k_head; (case hw => w_witness2)
  k_fill
  refine Zg.walkG (l := PySem.Challenge.rw_widerkeys_k07_windows_moved_and_parted) (sp := Zg.spLaw) (x := "_law_script") (k := 8) rfl (by decide) rfl ⟨rfl, by decide, by decide⟩ (fun w h Y => PySem.W.kIn_of Y) ?F (fun K H a ns hl hS => ⟨a, ns, rfl, hS, hl, fun _ => rfl⟩)
  case F =>
    intro w mg fa h KX G hmg
    refine' Zg.all_mk KX G hmg ?haC ?hpg ?hhd ?hpo ?hsa ?hmk ?hkc ?hnlow ?hnhigh ?hnsize ?hais_integer ?hlis_integer ?hcis_integer ?hkis_integer ?haKind___init__ ?hiKind___init__ ?hlKind___init__ ?hcKind___init__ ?hkKind___init__ ?haKind_cut ?hiKind_cut ?hlKind_cut ?hcKind_cut ?hkKind_cut ?hagreater ?hlgreater ?hcgreater ?hkgreater ?hais_span ?hlis_span ?hcis_span ?hkis_span ?ha_check_spans ?hl_check_spans ?hc_check_spans ?hk_check_spans ?ha_next_like ?hl_next_like ?hc_next_like ?hk_next_like ?ha_least ?hl_least ?hc_least ?hk_least ?ha_least_turned ?hl_least_turned ?hc_least_turned ?hk_least_turned ?ha_least_against ?hl_least_against ?hc_least_against ?hk_least_against ?haordered ?hlordered ?hcordered ?hkordered ?haalike ?hlalike ?hcalike ?hkalike ?ha_law_pot_of ?hl_law_pot_of ?hc_law_pot_of ?hk_law_pot_of ?ha_law_take ?hl_law_take ?hc_law_take ?hk_law_take ?ha_law_of ?hl_law_of ?hc_law_of ?hk_law_of ?ha_law_kind_ends ?hl_law_kind_ends ?hc_law_kind_ends ?hk_law_kind_ends ?ha_law_span ?hl_law_span ?hc_law_span ?hk_law_span ?ha_law_breaks ?hl_law_breaks ?hc_law_breaks ?hk_law_breaks ?ha_law_told ?hl_law_told ?hc_law_told ?hk_law_told ?ha_law_is_in ?hl_law_is_in ?hc_law_is_in ?hk_law_is_in ?ha_law_parted_right ?hl_law_parted_right ?hc_law_parted_right ?hk_law_parted_right ?ha_law_right ?hl_law_right ?hc_law_right ?hk_law_right ?halaw ?hllaw ?hclaw ?hklaw ?hzint ?hzlen ?hzabs ?hzbool ?hztuple ?hzisinstance ?hzrange ?hzmax ?hzmin ?hzall ?hzrepr
    (case haC => k_is)
    (case hpg => k_is)
    (case hhd => k_is)
    (case hpo => k_is)
    (case hsa => k_is)
    (case hmk => k_is)
    (case hkc => k_is)
    (case hnlow => k_is)
    (case hnhigh => k_is)
    (case hnsize => k_is)
    (case hais_integer => k_is)
    (case hlis_integer => k_is)
    (case hcis_integer => k_is)
    (case hkis_integer => k_is)
    (case haKind___init__ => k_is)
    (case hiKind___init__ => k_is)
    (case hlKind___init__ => k_is)
    (case hcKind___init__ => k_is)
    (case hkKind___init__ => k_is)
    (case haKind_cut => k_is)
    (case hiKind_cut => k_is)
    (case hlKind_cut => k_is)
    (case hcKind_cut => k_is)
    (case hkKind_cut => k_is)
    (case hagreater => k_is)
    (case hlgreater => k_is)
    (case hcgreater => k_is)
    (case hkgreater => k_is)
    (case hais_span => k_is)
    (case hlis_span => k_is)
    (case hcis_span => k_is)
    (case hkis_span => k_is)
    (case ha_check_spans => k_is)
    (case hl_check_spans => k_is)
    (case hc_check_spans => k_is)
    (case hk_check_spans => k_is)
    (case ha_next_like => k_is)
    (case hl_next_like => k_is)
    (case hc_next_like => k_is)
    (case hk_next_like => k_is)
    (case ha_least => k_is)
    (case hl_least => k_is)
    (case hc_least => k_is)
    (case hk_least => k_is)
    (case ha_least_turned => k_is)
    (case hl_least_turned => k_is)
    (case hc_least_turned => k_is)
    (case hk_least_turned => k_is)
    (case ha_least_against => k_is)
    (case hl_least_against => k_is)
    (case hc_least_against => k_is)
    (case hk_least_against => k_is)
    (case haordered => k_is)
    (case hlordered => k_is)
    (case hcordered => k_is)
    (case hkordered => k_is)
    (case haalike => k_is)
    (case hlalike => k_is)
    (case hcalike => k_is)
    (case hkalike => k_is)
    (case ha_law_pot_of => k_is)
    (case hl_law_pot_of => k_is)
    (case hc_law_pot_of => k_is)
    (case hk_law_pot_of => k_is)
    (case ha_law_take => k_is)
    (case hl_law_take => k_is)
    (case hc_law_take => k_is)
    (case hk_law_take => k_is)
    (case ha_law_of => k_is)
    (case hl_law_of => k_is)
    (case hc_law_of => k_is)
    (case hk_law_of => k_is)
    (case ha_law_kind_ends => k_is)
    (case hl_law_kind_ends => k_is)
    (case hc_law_kind_ends => k_is)
    (case hk_law_kind_ends => k_is)
    (case ha_law_span => k_is)
    (case hl_law_span => k_is)
    (case hc_law_span => k_is)
    (case hk_law_span => k_is)
    (case ha_law_breaks => k_is)
    (case hl_law_breaks => k_is)
    (case hc_law_breaks => k_is)
    (case hk_law_breaks => k_is)
    (case ha_law_told => k_is)
    (case hl_law_told => k_is)
    (case hc_law_told => k_is)
    (case hk_law_told => k_is)
    (case ha_law_is_in => k_is)
    (case hl_law_is_in => k_is)
    (case hc_law_is_in => k_is)
    (case hk_law_is_in => k_is)
    (case ha_law_parted_right => k_is)
    (case hl_law_parted_right => k_is)
    (case hc_law_parted_right => k_is)
    (case hk_law_parted_right => k_is)
    (case ha_law_right => k_is)
    (case hl_law_right => k_is)
    (case hc_law_right => k_is)
    (case hk_law_right => k_is)
    (case halaw => k_is)
    (case hllaw => k_is)
    (case hclaw => k_is)
    (case hklaw => k_is)
    (case hzint => k_is)
    (case hzlen => k_is)
    (case hzabs => k_is)
    (case hzbool => k_is)
    (case hztuple => k_is)
    (case hzisinstance => k_is)
    (case hzrange => k_is)
    (case hzmax => k_is)
    (case hzmin => k_is)
    (case hzall => k_is)
    (case hzrepr => k_is)
#print axioms PySem.Challenge.cw_widerkeys_k07_windows_moved_and_parted_holds
