import PyProof.Rows.All
import Wide.All
import OpenK.AllK
import Wide.FinOn
import PyProof.DictUpdate
import HandS.ForMost
import PyProof.ReprRoads
import HandS.Defaults
import HandS.More
import PyProof.ReprBulk
import HandS.RaiseMore
import HandS.Wide
import HandS.ExcInit
import HandS.TupSets
import KE.SortData
import HandS.Walk
import KE.GoesEnum
import HandS.SetBool
import KE.KDictPairs
import KE.KDictKeyed
import HandS.Deep
import PyProof.EqKinds
import PyProof.EqAt
import HandS.IsInst
import KE.KStateDown
import HandS.Exc
import HandS.ExcField
import HandS.ExcIs
import HandS.Head0
import HandS.Head1
import HandS.Head2
import HandS.HeadEnd
import HandS.HeadHook1
import HandS.HeadHook2
import HandS.HeadHook4
import HandS.Lambda
import HandS.Nested
import HandS.CallLocal
import PyProof.P3Eq
import HandS.Style
import HandS.TupAny
import KE.KRevSl
import PyProof.ListStr
import PyProof.StrOps2
import PyProof.StrLawsRepr
import HandS.Conv
import PySem.Challenge.RW_laidanyhow_k01_names_lots_of_any_value
set_option Elab.async false
set_option linter.all false
set_option maxRecDepth 100000
set_option maxHeartbeats 0
namespace Ly
open PySem PySem.Spec PyProof.Rows L2
/-- a.update(o), two dicts with int and text keys -/
def rUpd : V → List V → Hp → VK → Prop := fun x xs H Q => ∃ (a o : Addr) (kvs more : List (Key × V)), x = .ref a ∧ xs = [.ref o] ∧ a ≠ o ∧ H a = some (.dK kvs) ∧ H o = some (.dK more) ∧ kvs.length + more.length ≤ 1000 ∧ (mergeK kvs more).length ≤ 1000 ∧
  Q .non (upd H a (.dK (mergeK kvs more)))
theorem mt_upd {X : Cx} : MtR X "dict.update" rUpd := by
  intro pins s σ H x xs v us Q I rx rv h
  obtain ⟨a, o, kvs, more, rfl, rfl, ne, ea, eo, hz, hz2, q⟩ := h
  cases rx
  cases rv with
  | cons r1 r2 =>
    cases r2
    cases r1
    obtain ⟨_, ha, vs, ra, da⟩ := dk_of I.hok ea
    obtain ⟨_, ho, rs, ro, dq⟩ := dk_of I.hok eo
    have e1 := ra.length
    have e2 := ro.length
    have big : (1000 : Nat) ≤ sizeLine := by
      rw [sizeLine_eq]
      decide
    refine call_meetsIn PySem.F.slot_dict_update da.typeIs PySem.F.entry_dict_update (PySem.F.args_dict_update_2 _ _) (meets_dict_update (mixKind X.prog X.w) a o ne ho) ⟨vs, rs, da, dq, by omega, fun h' d' o' hs => ?_⟩
    have he : ∃ z, h'.get? a = some z := by
      obtain ⟨z, _, _, hz, _⟩ := d'
      exact ⟨z, hz⟩
    refine ⟨.non, _, d_write (t' := s.toks) I (by rw [ea]; exact True.intro) hs he (dk_new (Nat.le_trans hz2 big) ha (KV.merge ro ra) d'), rfl, q⟩
end Ly

namespace Ly
open PySem PySem.Spec PyProof.Rows L2
/-! defs that are only called where no repr is under way -/
section
variable {P : Program} {w : World} {K : PySem.W.Frag} {mg : Str → Option Value} {base : Heap} {CX : CXT}
/-- as FnOk, for places where nothing of repr is under way -/
structure FnG (P : Program) (w : World) (K : PySem.W.Frag) (mg : Str → Option Value) (base : Heap) (CX : CXT)
    (k : Nat) (f : Addr) (fd : FuncData) (ps : List Str) (sp : Sp) : Prop where
  size : ∀ vs H Q E, sp vs H Q E → vs.length = ps.length
  go : ∀ (A : Around) (out : List Env) (s : Shared) (H : Hp) (ag : Args) (us : List Value) (vs : List V) (Q : VK) (E : XK),
    A.guards = some [] → Room k A → Env0 P w K mg base A out s H → BindsTo s fd ag (ps.zip us) → Vals vs us → sp vs H Q E →
      codeAny (model P w) A (.call (.ref f) ag) (CR CX out P w H s Q E) s

theorem FunD.okG {x qual : Str} {params : Arguments} {body : List Stmt} {sc : Scope} {dvs : List V} {kws : List (Str × V)} {f : Addr} {fd : FuncData} {N ps : List Str} {k : Nat} {sp : Sp}
    (F : FunD K x qual params body sc dvs kws f fd) (S : FnScope N ps sc) (size : ∀ vs H Q E, sp vs H Q E → vs.length = ps.length)
    (B : ∀ (cd : Value) (A : Around) (out : List Env) (s : Shared) (H : Hp) (vs : List V) (Q : VK) (E : XK), A.guards = some [] →
      Room k (A.deeper (envOfC qual sc s.heap.objs.size f cd)) → sp vs H Q E →
      ∃ t, PSs (cxOf CX P w K mg base N qual sc f cd A out s H E) body t ∧ t { nx := fun _ H' => Q .non H', rt := Q } (start N vs) H) :
    FnG P w K mg base CX (k + 1) f fd ps sp := by
  obtain ⟨oc, od, dV, kV, doc, pm, an, cd, ct, osl, rfl, lk, hc, _, _⟩ := F.ex
  constructor
  · exact size
  intro A out s H ag us vs Q E hG hR e0 hB hV hS
  have hn := size _ _ _ _ hS
  have hK : K.In s.heap := e0.mod.kin.keeps fun b o z => (e0.bs b o z).1
  have hL : s.heap.NoLimit := e0.mod.nolimit.keeps fun b o z => (e0.bs b o z).1
  have hk : ∀ y ∈ ps.zip us, sc.names.lookup y.1 = some .local ∨
      (sc.names.lookup y.1 = some .cell ∧ ((cellsFrom (s.heap.objs.size + 1) sc.names []).lookup y.1).isSome = true) := by
    rintro ⟨n, v⟩ hy
    rcases S.par n (List.of_mem_zip hy).1 with z | z
    · exact Or.inl z
    · exact Or.inr ⟨z, PySem.W.cellsFrom_some _ _ _ (Or.inl z)⟩
  refine codeAny_call_function hR.depth (hK _ _ lk) rfl S.co S.gen rfl
    (PySem.W.codeRec_of hK hc) (hB _ _ _ _ ?_)
  refine wpAny_newFunctionEnv_cells S.kind hk
    fun env hv s1 X1 => ?_
  subst hv
  refine ⟨hL.keeps X1.toInCall.keep, ?_⟩
  refine codeAny_func ?_
  obtain ⟨t, ht, hq⟩ := B cd A out s H vs Q E hG (hR.deeper _) hS
  have J := inv_start (CX := CX) (E := E) S hR.hd e0 hn hV X1
  refine wpAny_mono (ht.run [] s1 (start N vs) H _ J hq) (fun fl s' z => ?_) (fun _ _ z => z)
  cases fl with
  | next =>
    obtain ⟨σ', H', I', q⟩ := z
    exact ⟨.non, H', I'.os, I'.bare, I'.base, I'.hok, rfl, q⟩
  | ret u =>
    obtain ⟨v, σ', H', I', rv, q⟩ := z
    exact ⟨v, H', I'.os, I'.bare, I'.base, I'.hok, rv, q⟩
  | brk => obtain ⟨_, _, _, q⟩ := z; exact q.elim
  | cont => obtain ⟨_, _, _, q⟩ := z; exact q.elim

theorem FnG.of {k : Nat} {f : Addr} {fd : FuncData} {ps : List Str} {sp : Sp} (F : FnOk P w K mg base CX k f fd ps sp) : FnG P w K mg base CX k f fd ps sp :=
  ⟨F.len, fun A out s H ag us vs Q E _ => F.run A out s H ag us vs Q E⟩
end
section
variable {X : Cx} {CX : CXT} {k : Nat} {f : Addr} {fd : FuncData} {ps : List Str} {sp : Sp} {dvs : List V} {ds : List Value} {E : XK} {x : Str} {p pos : Pos} {e : Expr} {es : List Expr} {t : TA}
/-- a call of such a def -/
theorem pe_callG (F : FnG X.prog X.w X.K X.mg X.base CX k f fd ps sp) (hG : X.A.guards = some []) (hR : Room k X.A) (hx : Gl X x) (hm : X.mg x = some (.ref f))
    (kp : PySem.W.keepIn X.K (.ref f) = true) (hb : Binds X.K fd ps ds) (hd : Vals dvs ds) (hp : Passes CX X E) (ha : PA X (e :: es) t)
    (h1 : (x == ("__debug__" : Str)) = false := by decide) (h2 : starEach (e :: es) X.env = (false, eval e X.env) :: starEach es X.env := by rfl)
    (h3 : (backTo pos (starEach es X.env)).any (·.1) = false := by rfl) : PE X (.Call (.Name x p) (e :: es) [] pos) (tCall sp dvs E t) := by
  constructor
  intro pins s σ H Q I h
  refine wpAny_Call_Name_kw (ld_glob I hx hm ?_ h1)
  refine PySem.W.callWith_K (h₀ := X.base) I.ok.mod.kin kp
    (thn (ha.run pos pins s σ H _ I h) fun us s1 z => ?_) h2 h3
  obtain ⟨vs, H1, I1, r, q⟩ := z
  refine ⟨I1.kIn, ?_⟩
  have r2 : Vals (vs ++ dvs) (us ++ ds) := Vals.append r hd
  have hl : (us ++ ds).length = ps.length := by
    have := F.size _ _ _ _ q
    have := r2.length
    omega
  refine wpAny_call (codeAny_mono (F.go X.A X.stack s1 H1 ⟨us, []⟩ (us ++ ds) (vs ++ dvs) Q E hG hR I1.env0 (hb s1 us I1.kIn hl) r2 q) ?_)
  intro r s' z
  match r, z with
  | .error er, z => exact hp pins σ H1 s1 er s' I1 z
  | .ok (.ret u), z => exact I1.after z
  | .ok .next, z => exact z.elim
  | .ok .brk, z => exact z.elim
  | .ok .cont, z => exact z.elim
end
/-! the law's own call -/
theorem lawG {P : Program} {w : World} {K : PySem.W.Frag} {mg mb : Str → Option Value} {CX : CXT} {k : Nat} {fa a : Addr} {fd : FuncData} {x : Str} {sp : Sp} {s : Shared} {vs : List Value} {ns : List Int}
    (hK : K.In s.heap) (hG : s.heap.Ns mainGlobals mg) (hB : s.heap.Ns builtinsNs mb) (hBB : ∀ x : Str, x ≠ "__name__" → mb x = bootBuiltins x) (hL : s.heap.NoLimit) (hg : s.gens = #[])
    (ha : s.heap.get? a = some { cls := .type "list", data := .seq vs.toArray }) (hi : IntsAre vs ns) (hl : ns.length ≤ sizeLine) (hR : Room k callerA)
    (F : ∀ base : Heap, K.In base → base.Ns mainGlobals mg → FnG P w K mg base CX k fa fd [x] sp) (hb : ∀ (s : Shared) (u : Value), BindsTo s fd ⟨[u], []⟩ [(x, u)])
    (hsp : ∀ H : Hp, Only H → SqL K H a (ns.map V.int) → sp [.ref a] H (fun v _ => v = .bl true) fun _ _ _ => False)
    (hCX : ∀ H e s', CX [] H s (fun _ _ _ => False) e s' → False) :
    codeAny (model P w) callerA (.call (.ref fa) ⟨[.ref a], []⟩) (fun r s' => r = .ok (.ret (.bool true)) ∧ OldK s.heap s'.heap ∧ s'.os = s.os ∧ AllBare s'.gens) s := by
  have go : ∀ H : Hp, Only H → SqL K H a (ns.map V.int) → HOk P w H s.heap → (∀ b u, H b = some u → b = a) → ((∃ u, H a = some u) → K.lookup a = none) →
      codeAny (model P w) callerA (.call (.ref fa) ⟨[.ref a], []⟩) (fun r s' => r = .ok (.ret (.bool true)) ∧ OldK s.heap s'.heap ∧ s'.os = s.os ∧ AllBare s'.gens) s := by
    intro H hO hS ok hA hKa
    have up : ∀ {b : Addr} {o : Obj}, s.heap.get? b = some o → H b = none → (hidT s.heap H).get? b = some o := fun z n => hidT_get z n
    have nod : ∀ {b : Addr} {o : Obj} {es : Array DictEntry} {ep : Nat}, s.heap.get? b = some o → o.data = .dict es ep → H b = none := by
      intro b o es ep z d
      match q : H b with
      | none => rfl
      | some u =>
        have e' := hA b u q
        subst e'
        rw [ha] at z
        cases z
        cases d
    have ns2 : ∀ {b : Addr} {m : Str → Option Value}, s.heap.Ns b m → (hidT s.heap H).Ns b m := by
      rintro b m ⟨o, es, ep, z, d, r⟩
      exact ⟨o, es, ep, up z (nod z d), d, r⟩
    have k2 : K.In (hidT s.heap H) := by
      intro b o z
      refine up (hK b o z) ?_
      match q : H b with
      | none => rfl
      | some u =>
        have e' := hA b u q
        subst e'
        rw [hKa ⟨u, q⟩] at z
        cases z
    have m2 : Mod K mg (hidT s.heap H) := by
      obtain ⟨mc, l1, l2⟩ := hL
      exact ⟨k2, ns2 hG, ⟨mb, ns2 hB, hBB⟩, ⟨mc, ns2 l1, l2⟩⟩
    have none2 : ∀ b : Addr, b ∉ frs [] := fun b z => (List.not_mem_nil : b ∉ ([] : List Addr)) z
    have e0 : Env0 P w K mg (hidT s.heap H) callerA [] s H :=
      ⟨rfl, m2, fun b o z => of_hidT z, Nat.le_of_eq (hidT_size _ _), trivial, fun b z => absurd z (none2 b), ok, .of_eq hg⟩
    refine codeAny_mono ((F _ k2 (ns2 hG)).go callerA [] s H ⟨[.ref a], []⟩ [.ref a] [.ref a] _ _ rfl hR e0 (hb s (.ref a)) (.cons rfl .nil) (hsp H hO hS)) ?_
    intro r s' z
    match r, z with
    | .error e, z => exact (hCX H e s' z).elim
    | .ok .next, z => exact z.elim
    | .ok .brk, z => exact z.elim
    | .ok .cont, z => exact z.elim
    | .ok (.ret u), z =>
      obtain ⟨v, H', os, bare, un, ok', rv, q⟩ := z
      have q : v = .bl true := q
      subst q
      have eu : u = Value.bool true := rv
      subst eu
      refine ⟨rfl, OldK.of_keep fun b o z => ?_, os, bare⟩
      match q : H b with
      | none => exact un.keep b o z q (none2 b) (fun y => (List.not_mem_nil : b ∉ ([] : List Addr)) y)
      | some u =>
        rcases hO b with y | ⟨ob, xs, y⟩
        · rw [q] at y
          cases y
        · have y2 := un.frzs b ob _ y
          have e1 := (ok b _ y).1
          have e2 := (ok' b _ y2).1
          rw [z] at e1
          cases e1
          exact e2
  have rv : Vals (ns.map V.int) vs := vals_ints hi
  match hk : K.lookup a with
  | some o =>
    have z := hK a o hk
    rw [ha] at z
    cases z
    refine go (fun _ => none) (fun _ => Or.inl rfl) (Or.inr ⟨_, vs.toArray, _, hk, rfl, rfl, rfl, ?_, ?_⟩) (fun b u z => nomatch z) (fun b u z => nomatch z) fun ⟨u, z⟩ => nomatch z
    · rw [List.size_toArray, hi.length]
      exact hl
    · simpa using rv
  | none =>
    let H0 : Hp := fun b => if b = a then some (.frz { cls := .type "list", data := .seq vs.toArray } (.lst (ns.map V.int))) else none
    have at0 : H0 a = some (.frz { cls := .type "list", data := .seq vs.toArray } (.lst (ns.map V.int))) := if_pos rfl
    have ne0 : ∀ b, b ≠ a → H0 b = none := fun b z => if_neg z
    have is0 : ∀ b u, H0 b = some u → b = a := by
      intro b u z
      by_cases y : b = a
      · exact y
      · rw [ne0 b y] at z
        cases z
    refine go H0 (fun b => ?_) (Or.inl (Or.inr ⟨_, at0⟩)) (fun b u z => ?_) is0 fun _ => hk
    · by_cases y : b = a
      · subst y
        exact Or.inr ⟨_, _, at0⟩
      · exact Or.inl (ne0 b y)
    · have y := is0 b u z
      subst y
      rw [at0] at z
      cases z
      exact ⟨ha, by rw [List.length_map]; exact hl, vs, _, rv, ha⟩

theorem walkG {l : PySem.W.OpenLaw} {n k : Nat} {q : Program} {loose : List Str} {XP : (Str → Option Value) → Heap → Prop} {YP : World → Heap → Prop} {d : DefRec} {CX : World → CXT} {x : Str}
    (hn : l.most = some n) (hn2 : n ≤ sizeLine) (hdf : d.params.defaults = []) (hR : Room k callerA)
    (F : ∀ (w : World) (mg : Str → Option Value) (fa : Addr) (h : Heap), YP w h → h.Ns mainGlobals mg → mg d.name = some (.ref fa) →
      ∃ (K : PySem.W.Frag) (fd : FuncData) (sp : Sp), K.In h ∧ (∀ (s : Shared) (u : Value), BindsTo s fd ⟨[u], []⟩ [(x, u)]) ∧
        (∀ (H : Hp) (a : Addr) (ns : List Int), ns.length ≤ n → Only H → SqL K H a (ns.map V.int) → sp [.ref a] H (fun v _ => v = .bl true) fun _ _ _ => False) ∧
        ∀ base : Heap, K.In base → base.Ns mainGlobals mg → FnG l.prog w K mg base (CX w) k fa fd [x] sp)
    (hCX : ∀ (w : World) (H : Hp) (s : Shared) (e : Value) (s' : Shared), CX w [] H s (fun _ _ _ => False) e s' → False) :
    PySem.W.WalkO q loose XP YP l.row.toRowW d [] (fun f vs => PySem.call f vs) := by
  refine Att.attach_call hn hdf ?_
  intro w s₀ s mg mb fa o pm cd doc a vs ns G Y ho hd hcd hmg hobj hints hlen hg
  obtain ⟨K, fd, sp, hK, hb, hsp, hF⟩ := F w mg fa _ Y G.T.g hmg
  exact lawG hK G.T.g G.T.b G.T.builtins G.T.nolimit hg hobj hints (Nat.le_trans hlen hn2) hR hF hb
    (fun H hO hS => hsp H a ns hlen hO hS) fun H e s' => hCX w H s e s'
end Ly

namespace Ly
open PySem PySem.Spec PyProof.Rows L2
/-! data: what a value stands for, dicts with int and text keys too -/
def keyD : Key → PyData
  | .inl i => .int i
  | .inr x => .str x
mutual
inductive Dq (K : PySem.W.Frag) (H : Hp) : V → PyData → Prop
  | non : Dq K H .non .none
  | bl (b : Bool) : Dq K H (.bl b) (.bool b)
  | int (i : Int) : Dq K H (.int i) (.int i)
  | str (x : Str) : Dq K H (.str x) (.str x)
  | lst {a : Addr} {xs : List V} {ds : List PyData} : SqL K H a xs → DqA K H xs ds → Dq K H (.ref a) (.list ds)
  | tup {a : Addr} {xs : List V} {ds : List PyData} : SqT K H a xs → DqA K H xs ds → Dq K H (.ref a) (.tuple ds)
  | dic {a : Addr} {kvs : List (Key × V)} {ds : List PyData} : H a = some (.dK kvs) → DqA K H (kvs.map (·.2)) ds →
      Dq K H (.ref a) (.dict ((kvs.map fun p => keyD p.1).zip ds))
inductive DqA (K : PySem.W.Frag) (H : Hp) : List V → List PyData → Prop
  | nil : DqA K H [] []
  | cons {v : V} {vs : List V} {d : PyData} {ds : List PyData} : Dq K H v d → DqA K H vs ds → DqA K H (v :: vs) (d :: ds)
end
theorem DqA.length {K : PySem.W.Frag} {H : Hp} : ∀ {vs : List V} {ds : List PyData}, DqA K H vs ds → vs.length = ds.length
  | _, _, .nil => rfl
  | _, _, .cons _ h => congrArg Nat.succ h.length
/-- the dict of the modules stands in the written part -/
def SysD (K : PySem.W.Frag) : Prop := ∃ o, K.lookup sysModules = some o ∧ o.cls = .type "dict"
theorem keys_reads {prog : Program} {w : World} {h : Heap} {kvs : List (Key × V)} {vs : List (Key × Value)} (r : KV kvs vs) :
    ∀ {es : List DictEntry}, Pairs (mixKind prog w) es vs → ReadsAll h (es.map (·.key)) (kvs.map fun p => keyD p.1) [] ∧ Vals (kvs.map (·.2)) (es.map (·.val)) := by
  unfold KV at r
  induction r with
  | nil =>
    intro es p
    cases p
    exact ⟨.nil, .nil⟩
  | @cons a b l1 l2 hab _ ih =>
    intro es p
    cases p with
    | @cons e _ es2 _ hk hv ht =>
      obtain ⟨i1, i2⟩ := ih ht
      obtain ⟨k, v⟩ := a
      obtain ⟨k', u⟩ := b
      obtain ⟨rfl, rv⟩ := hab
      refine ⟨?_, ?_⟩
      · have hk' : keyIs k e.key = true := hk
        have key : ∃ as, as = ([] : List Addr) ∧ Reads h e.key (keyD k) as := by
          rcases keyIs_shape hk' with ⟨i, t, e1, e2⟩ | ⟨x, t, e1, e2⟩
          · rw [e1, e2]
            exact ⟨_, rfl, .int i t⟩
          · rw [e1, e2]
            exact ⟨_, rfl, .str x t⟩
        obtain ⟨as, rfl, rk⟩ := key
        exact ReadsAll.cons rk i1
      · show Vals (v :: l1.map (·.2)) (e.val :: es2.map (·.val))
        rw [hv]
        exact .cons rv i2
section
variable {X : Cx} {pins : List (Addr × Obj)} {σ : L2.St} {H : Hp} {s : Shared}
theorem ne_sys (hS : SysD X.K) (I : Inv X pins σ H s) {a : Addr} {o : Obj} (ho : s.heap.get? a = some o) (hc : o.cls = .type "list") : a ≠ sysModules := by
  rintro rfl
  obtain ⟨o', h1, h2⟩ := hS
  have h3 := I.kIn _ _ h1
  rw [ho] at h3
  cases h3
  rw [hc] at h2
  exact absurd h2 (by decide)
mutual
theorem Dq.reads (hS : SysD X.K) (I : Inv X pins σ H s) : ∀ {v : V} {d : PyData}, Dq X.K H v d → ∀ {u : Value}, RelV v u → ∃ as, Reads s.heap u d as ∧ sysModules ∉ as
  | _, _, .non, _, r => by
    cases r
    exact ⟨_, Reads.none, by simp⟩
  | _, _, .bl b, _, r => by
    cases r
    exact ⟨_, Reads.bool b, by simp⟩
  | _, _, .int i, _, r => by
    obtain ⟨t, rfl⟩ := r
    exact ⟨_, Reads.int i t, by simp⟩
  | _, _, .str x, _, r => by
    obtain ⟨t, rfl⟩ := r
    exact ⟨_, Reads.str x t, by simp⟩
  | _, _, .lst hs ha, _, r => by
    cases r
    obtain ⟨its, rv, ⟨o, n, ho, hc, _, hd⟩, _⟩ := I.list hs
    obtain ⟨as, hr, hn⟩ := DqA.reads hS I ha rv
    refine ⟨_, Reads.list ho hc hd hr, ?_⟩
    intro hm
    rcases List.mem_cons.mp hm with z | z
    · exact ne_sys hS I ho hc z.symm
    · exact hn z
  | _, _, .tup hs ha, _, r => by
    cases r
    obtain ⟨its, rv, ⟨o, ho, hc, n, hd⟩, _⟩ := I.tuple hs
    obtain ⟨as, hr, hn⟩ := DqA.reads hS I ha rv
    exact ⟨_, Reads.tuple ho hc hd hr, hn⟩
  | _, _, .dic (a := a) (kvs := kvs) (ds := ds) hs ha, _, r => by
    cases r
    obtain ⟨_, hb, vs, rkv, o, es, ep, ho, hx, hd, _, hp, _⟩ := (show ObjOk X.prog X.w H s.heap a (.dK kvs) from I.hok a _ hs)
    obtain ⟨rk, rv⟩ := keys_reads (h := s.heap) rkv hp
    obtain ⟨as, hr, hn⟩ := DqA.reads hS I ha rv
    have hl : kvs.length = ds.length := by
      have := ha.length
      rw [List.length_map] at this
      exact this
    have e1 : ((kvs.map fun p => keyD p.1).zip ds).map (·.1) = kvs.map fun p => keyD p.1 := by
      rw [List.map_fst_zip]
      rw [List.length_map]
      omega
    have e2 : ((kvs.map fun p => keyD p.1).zip ds).map (·.2) = ds := by
      rw [List.map_snd_zip]
      rw [List.length_map]
      omega
    refine ⟨_, Reads.dict ho hx.1 hd (by rw [e1]; exact rk) (by rw [e2]; exact hr), ?_⟩
    intro hm
    rcases List.mem_append.mp hm with z | z
    · rcases List.mem_cons.mp z with z | z
      · rw [← z] at hb
        simp at hb
      · exact nomatch z
    · exact hn z
theorem DqA.reads (hS : SysD X.K) (I : Inv X pins σ H s) : ∀ {vs : List V} {ds : List PyData}, DqA X.K H vs ds → ∀ {us : List Value}, Vals vs us → ∃ as, ReadsAll s.heap us ds as ∧ sysModules ∉ as
  | _, _, .nil, _, r => by
    cases r
    exact ⟨_, ReadsAll.nil, by simp⟩
  | _, _, .cons h1 h2, _, r => by
    cases r with
    | cons r1 r2 =>
      obtain ⟨as, q1, n1⟩ := Dq.reads hS I h1 r1
      obtain ⟨bs, q2, n2⟩ := DqA.reads hS I h2 r2
      refine ⟨_, ReadsAll.cons q1 q2, ?_⟩
      intro hm
      rcases List.mem_append.mp hm with z | z
      · exact n1 z
      · exact n2 z
end
end
/-- repr(x), x a list, tuple or dict of data -/
def rRepr (K : PySem.W.Frag) : List V → Hp → VK → Prop := fun xs H Q => ∃ (a : Addr) (d : PyData), xs = [.ref a] ∧ Dq K H (.ref a) d ∧ d.showable = true ∧ d.shown.length ≤ sizeLine ∧ d.depth ≤ 60 ∧ Q (.str d.shown) H
theorem call_reprD {X : Cx} {k : Nat} (hS : SysD X.K) (hG : X.A.guards = some []) (hR : Room k X.A) : CallR X (.builtin "repr") (rRepr X.K) := by
  intro pins s σ H xs us Q I r h
  obtain ⟨a, d, rfl, hq, h1, h2, h3, q⟩ := h
  cases r with
  | cons r1 r2 =>
    cases r2
    obtain ⟨as, hr, hn⟩ := hq.reads hS I r1
    cases r1
    have hu := hR.units
    refine repr_of_reads' hr h1 (fun _ => hn) hG (by omega) (fun _ _ z => z) (fun h' u tk kk => ?_) h2
    exact ⟨.str d.shown, H, I.kept (t' := tk) kk, ⟨u, rfl⟩, q⟩
/-! == of things that are the same, item by item -/
def EqS (K : PySem.W.Frag) (H : Hp) : Nat → V → V → Prop
  | 0 => fun x y => (x = y ∧ flatB x = true) ∨ ∃ a, x = .ref a ∧ y = .ref a
  | n + 1 => fun x y => ((x = y ∧ flatB x = true) ∨ ∃ a, x = .ref a ∧ y = .ref a) ∨
      ∃ a b xs ys, x = .ref a ∧ y = .ref b ∧ a ≠ b ∧ ((SqL K H a xs ∧ SqL K H b ys) ∨ (SqT K H a xs ∧ SqT K H b ys)) ∧ Paired (EqS K H n) xs ys
section
variable {X : Cx} {pins : List (Addr × Obj)} {σ : L2.St} {H : Hp} {s : Shared}
theorem eqS_flat {A : Around} {x y : V} {v u : Value} (h : (x = y ∧ flatB x = true) ∨ ∃ a, x = .ref a ∧ y = .ref a) (rx : RelV x v) (ry : RelV y u) : SeqAt.EqAt A s v u true := by
  rcases h with ⟨rfl, hf⟩ | ⟨a, rfl, rfl⟩
  · exact eqAt_same rx ry hf
  · cases rx
    cases ry
    exact SeqAt.EqAt.same _
theorem eqS_items {n : Nat} {A : Around} (ih : ∀ x y v u, EqS X.K H n x y → RelV x v → RelV y u → SeqAt.EqAt A s v u true) {xs ys : List V} (hp : Paired (EqS X.K H n) xs ys) :
    ∀ {us ws : List Value}, Vals xs us → Vals ys ws → ∀ j (h1 : j < us.length) (h2 : j < ws.length), SeqAt.EqAt A s us[j] ws[j] true := by
  induction hp with
  | nil =>
    intro us ws r1 _ j h1
    cases r1
    exact absurd h1 (Nat.not_lt_zero j)
  | cons h _ k =>
    intro us ws r1 r2 j h1 h2
    cases r1 with
    | cons a1 b1 =>
      cases r2 with
      | cons a2 b2 =>
        match j with
        | 0 => exact ih _ _ _ _ h a1 a2
        | j + 1 => exact k b1 b2 j (Nat.lt_of_succ_lt_succ h1) (Nat.lt_of_succ_lt_succ h2)
theorem all_tt (n : Nat) : ((List.range n).all fun _ => true) = true := List.all_eq_true.mpr fun _ _ => rfl
theorem eqS_rc (I : Inv X pins σ H s) {n : Nat} {A : Around} (hu : A.units < cLine) (ih : ∀ x y v u, EqS X.K H n x y → RelV x v → RelV y u → SeqAt.EqAt A.in1 s v u true)
    {a b : Addr} {xs ys : List V} (hs : (SqL X.K H a xs ∧ SqL X.K H b ys) ∨ (SqT X.K H a xs ∧ SqT X.K H b ys)) (hp : Paired (EqS X.K H n) xs ys) : SeqAt.RcAt A s (.ref a) (.ref b) true := by
  rcases hs with ⟨h1, h2⟩ | ⟨h1, h2⟩
  · obtain ⟨us, r1, p1, _⟩ := I.list h1
    obtain ⟨ws, r2, p2, _⟩ := I.list h2
    have hz : us.toArray.size = ws.toArray.size := by
      have e1 := r1.length
      have e2 := r2.length
      have e3 := Paired.length hp
      simp only [List.size_toArray]
      omega
    have q := SeqAt.RcAt.lists (A := A) (s := s) (e := fun _ => true) p1.isList p2.isList hz hu fun j h1 h2 => by
      simpa using eqS_items ih hp r1 r2 j (by simpa using h1) (by simpa using h2)
    rw [all_tt] at q
    exact q
  · obtain ⟨us, r1, ⟨o1, g1, c1, n1, d1⟩, _⟩ := I.tuple h1
    obtain ⟨ws, r2, ⟨o2, g2, c2, n2, d2⟩, _⟩ := I.tuple h2
    have hz : us.toArray.size = ws.toArray.size := by
      have e1 := r1.length
      have e2 := r2.length
      have e3 := Paired.length hp
      simp only [List.size_toArray]
      omega
    have q := SeqAt.RcAt.tuples (A := A) (s := s) (e := fun _ => true) (items := us.toArray) (items2 := ws.toArray) ⟨o1, g1, c1, n1, d1⟩ ⟨o2, g2, c2, n2, d2⟩ hu fun j h1 h2 => by
      simpa using eqS_items ih hp r1 r2 j (by simpa using h1) (by simpa using h2)
    rw [all_tt, hz] at q
    simpa using q
theorem eqS_at (I : Inv X pins σ H s) : ∀ (n : Nat) (A : Around), A.units + n < cLine → ∀ x y v u, EqS X.K H n x y → RelV x v → RelV y u → SeqAt.EqAt A s v u true
  | 0, _, _, _, _, _, _, h, rx, ry => eqS_flat h rx ry
  | n + 1, A, hu, x, y, v, u, h, rx, ry => by
    rcases h with h | ⟨a, b, xs, ys, rfl, rfl, ne, hs, hp⟩
    · exact eqS_flat h rx ry
    · cases rx
      cases ry
      exact SeqAt.EqAt.of_refs ne (eqS_rc I (by omega) (eqS_at I n A.in1 (by show A.units + 1 + n < cLine; omega)) hs hp)
end
/-- x == y, two lists or two tuples of the same things -/
def rEqS (K : PySem.W.Frag) : R2 := fun x y H Q => ∃ a b xs ys n, x = .ref a ∧ y = .ref b ∧ n ≤ 40 ∧ ((SqL K H a xs ∧ SqL K H b ys) ∨ (SqT K H a xs ∧ SqT K H b ys)) ∧ Paired (EqS K H n) xs ys ∧ Q (.bl true) H
theorem op_eqS {X : Cx} {k : Nat} (hR : Room k X.A) : OpR X (compareOp .Eq) (rEqS X.K) := by
  intro pins s σ H x y v u Q I rx ry h
  obtain ⟨a, b, xs, ys, n, rfl, rfl, hn, hs, hp, q⟩ := h
  cases rx
  cases ry
  have hu := hR.units
  exact eqS_rc I (A := X.A) (by omega) (eqS_at I n X.A.in1 (by show X.A.units + 1 + n < cLine; omega)) hs hp X.prog X.w _ _ ⟨.bl true, H, I, rfl, q⟩
end Ly

namespace Ly
open PySem PySem.Spec PyProof.Rows L2
/-- the bag of a script at b -/
structure BagAt (H : Hp) (b q : Addr) (x0 x1 x2 : Int) (ms : List Int) : Prop where
  top : H b = some (.lst [.int x0, .int x1, .int x2, .ref q])
  cells : H q = some (.lst (ms.map V.int))
  n0 : 0 ≤ x0
  n1 : 0 ≤ x1
  n2 : 0 ≤ x2
  few : ms.length ≤ 1000
def IsBag (H : Hp) (b : Addr) : Prop := ∃ q x0 x1 x2 ms, BagAt H b q x0 x1 x2 ms
theorem BagAt.ne {H : Hp} {b q : Addr} {x0 x1 x2 : Int} {ms : List Int} (h : BagAt H b q x0 x1 x2 ms) : q ≠ b := by
  rintro rfl
  have e := h.top.symm.trans h.cells
  have e := Option.some.inj e
  have e : [V.int x0, V.int x1, V.int x2, V.ref q] = ms.map V.int := HO.lst.inj e
  have m : V.ref q ∈ ms.map V.int := by
    rw [← e]
    simp
  obtain ⟨z, _, hz⟩ := List.mem_map.mp m
  cases hz
/-- all but b stands as it did -/
def Kp (b : Addr) (H H' : Hp) : Prop := ∀ a o, a ≠ b → H a = some o → H' a = some o
theorem Kp.refl (b : Addr) (H : Hp) : Kp b H H := fun _ _ _ h => h
theorem Kp.trans {b : Addr} {H H1 H2 : Hp} (h : Kp b H H1) (h' : Kp b H1 H2) : Kp b H H2 := fun a o n e => h' a o n (h a o n e)
theorem Kp.new {b p : Addr} {H : Hp} {o : HO} (h : H p = none) : Kp b H (upd H p o) := fun a x _ e => by
  rw [upd_ne (ne_of_none e h)]
  exact e
theorem Kp.set {b : Addr} {H : Hp} {o : HO} : Kp b H (upd H b o) := fun a x n e => by
  rw [upd_ne n]
  exact e
theorem Same.kp {b : Addr} {H H' : Hp} (h : Same H H') : Kp b H H' := fun a o _ e => h a o e
theorem Kp.seqT {K : PySem.W.Frag} {b a : Addr} {H H' : Hp} {xs : List V} (h : Kp b H H') (ht : SqT K H a xs) (hb : ∀ ys, H b ≠ some (.tup ys)) (hb2 : ∀ o ys, H b ≠ some (.frz o (.tup ys))) : SqT K H' a xs := by
  rcases ht with (e | ⟨o, e⟩) | e
  · refine .inl (.inl (h a _ ?_ e))
    rintro rfl
    exact hb _ e
  · refine .inl (.inr ⟨o, h a _ ?_ e⟩)
    rintro rfl
    exact hb2 _ _ e
  · exact .inr e
theorem BagAt.new {H : Hp} {b q p : Addr} {x0 x1 x2 : Int} {ms : List Int} {o : HO} (h : BagAt H b q x0 x1 x2 ms) (hp : H p = none) : BagAt (upd H p o) b q x0 x1 x2 ms :=
  ⟨by rw [upd_ne (ne_of_none h.top hp)]; exact h.top, by rw [upd_ne (ne_of_none h.cells hp)]; exact h.cells, h.n0, h.n1, h.n2, h.few⟩
theorem BagAt.set {H : Hp} {b q : Addr} {x0 x1 x2 y0 y1 y2 : Int} {ms : List Int} (h : BagAt H b q x0 x1 x2 ms) (n0 : 0 ≤ y0) (n1 : 0 ≤ y1) (n2 : 0 ≤ y2) :
    BagAt (upd H b (.lst [.int y0, .int y1, .int y2, .ref q])) b q y0 y1 y2 ms :=
  ⟨upd_same, by rw [upd_ne h.ne]; exact h.cells, n0, n1, n2, h.few⟩
theorem BagAt.same {H H' : Hp} {b q : Addr} {x0 x1 x2 : Int} {ms : List Int} (h : BagAt H b q x0 x1 x2 ms) (s : Same H H') : BagAt H' b q x0 x1 x2 ms :=
  ⟨s _ _ h.top, s _ _ h.cells, h.n0, h.n1, h.n2, h.few⟩
theorem IsBag.same {H H' : Hp} {b : Addr} (h : IsBag H b) (s : Same H H') : IsBag H' b := by
  obtain ⟨q, x0, x1, x2, ms, h⟩ := h
  exact ⟨q, x0, x1, x2, ms, h.same s⟩
theorem IsBag.new {H : Hp} {b p : Addr} {o : HO} (h : IsBag H b) (hp : H p = none) : IsBag (upd H p o) b := by
  obtain ⟨q, x0, x1, x2, ms, h⟩ := h
  exact ⟨q, x0, x1, x2, ms, h.new hp⟩
theorem IsBag.top {H : Hp} {b : Addr} (h : IsBag H b) : ∃ xs, H b = some (.lst xs) := by
  obtain ⟨q, x0, x1, x2, ms, h⟩ := h
  exact ⟨_, h.top⟩
/-- the suite of an if, a for -/
def suiteOf : Stmt → List Stmt
  | .If _ b _ _ => b
  | .For _ _ b _ _ => b
  | _ => []
def nthS (l : List Stmt) (i : Nat) : Stmt := l.getD i (.Pass ⟨0, 0, 0, 0⟩)
theorem cut_ints (ms : List Int) (lo hi : Option Int) : ∃ zs : List Int, cutV (ms.map V.int) lo hi = zs.map V.int ∧ zs.length ≤ ms.length := by
  refine ⟨(ms.drop (HT.sIx (ms.map V.int).length 0 lo)).take (HT.sIx (ms.map V.int).length (ms.map V.int).length hi - HT.sIx (ms.map V.int).length 0 lo), ?_, ?_⟩
  · unfold cutV
    rw [List.map_take, List.map_drop]
  · rw [List.length_take, List.length_drop]
    omega
theorem few_line {n : Nat} (h : n ≤ 100000) : n ≤ sizeLine := by
  rw [sizeLine_eq]
  omega
/-- o[i] of a list, for o[i] op= e -/
def rGetL (K : PySem.W.Frag) : V → V → Hp → VK → Prop := fun o i H Q => ∃ (p : Addr) (xs : List V) (k : Nat) (v : V), o = .ref p ∧ i = .int k ∧ SqL K H p xs ∧ xs[k]? = some v ∧ Q v H
theorem get_list {X : Cx} : PGet X (rGetL X.K) := by
  intro pins s σ H o i ov iv Q I ro ri h
  obtain ⟨p, xs, k, v, rfl, rfl, hq, hv, q⟩ := h
  cases ro
  obtain ⟨t, rfl⟩ := ri
  obtain ⟨its, r, pl, hz⟩ := I.list hq
  obtain ⟨u, hu, ru⟩ := r.get hv
  have hl := r.length
  have hk : k < xs.length := (List.getElem?_eq_some_iff.mp hv).1
  have hn : sizeLine < 2 ^ 63 := by rw [sizeLine_eq]; decide
  refine wpAny_getItem_list pl.isList (Int.natCast_nonneg k) ?_ (x := u) ?_ ⟨v, H, I, ru, q⟩
  · have : k < 2 ^ 63 := by omega
    exact_mod_cast this
  · simpa using hu
end Ly

namespace Ly
open PySem PySem.Spec PyProof.Rows L2
theorem Same.seqT {K : PySem.W.Frag} {H H' : Hp} {a : Addr} {xs : List V} (e : Same H H') (h : SqT K H a xs) : SqT K H' a xs := by
  rcases h with (h | ⟨o, h⟩) | h
  · exact .inl (.inl (e _ _ h))
  · exact .inl (.inr ⟨o, e _ _ h⟩)
  · exact .inr h
mutual
theorem Dq.mono {K : PySem.W.Frag} {H H' : Hp} (e : Same H H') : ∀ {v : V} {d : PyData}, Dq K H v d → Dq K H' v d
  | _, _, .non => .non
  | _, _, .bl b => .bl b
  | _, _, .int i => .int i
  | _, _, .str x => .str x
  | _, _, .lst hs ha => .lst (e.seq hs) (DqA.mono e ha)
  | _, _, .tup hs ha => .tup (Same.seqT e hs) (DqA.mono e ha)
  | _, _, .dic hs ha => .dic (e _ _ hs) (DqA.mono e ha)
theorem DqA.mono {K : PySem.W.Frag} {H H' : Hp} (e : Same H H') : ∀ {vs : List V} {ds : List PyData}, DqA K H vs ds → DqA K H' vs ds
  | _, _, .nil => .nil
  | _, _, .cons h1 h2 => .cons (Dq.mono e h1) (DqA.mono e h2)
end
theorem DqA.mem {K : PySem.W.Frag} {H : Hp} : ∀ {vs : List V} {ds : List PyData}, DqA K H vs ds → ∀ {v : V}, v ∈ vs → ∃ d ∈ ds, Dq K H v d
  | _, _, .nil, _, h => nomatch h
  | _, _, .cons h1 h2, v, h => by
    rcases List.mem_cons.mp h with e | h
    · subst e
      exact ⟨_, List.mem_cons_self, h1⟩
    · obtain ⟨d, hd, q⟩ := DqA.mem h2 h
      exact ⟨d, List.mem_cons_of_mem _ hd, q⟩
theorem DqA.append {K : PySem.W.Frag} {H : Hp} : ∀ {vs ws : List V} {ds es : List PyData}, DqA K H vs ds → DqA K H ws es → DqA K H (vs ++ ws) (ds ++ es)
  | _, _, _, _, .nil, h => h
  | _, _, _, _, .cons h1 h2, h => .cons h1 (DqA.append h2 h)
/-- what stands outside S -/
def hid (S : Addr → Bool) (H : Hp) : Hp := fun a => if S a = true then none else H a
theorem hid_at {S : Addr → Bool} {H : Hp} {a : Addr} (h : S a = false) : hid S H a = H a := by
  unfold hid
  rw [if_neg (by rw [h]; simp)]
theorem of_hid {S : Addr → Bool} {H : Hp} {a : Addr} {o : HO} (h : hid S H a = some o) : S a = false ∧ H a = some o := by
  unfold hid at h
  by_cases z : S a = true
  · rw [if_pos z] at h
    cases h
  · rw [if_neg z] at h
    exact ⟨by simpa using z, h⟩
theorem hid_same {S T : Addr → Bool} {H H' : Hp} (i : ∀ a, S a = false → T a = false) (h : ∀ a o, S a = false → H a = some o → H' a = some o) : Same (hid S H) (hid T H') := fun a o e => by
  obtain ⟨z, e⟩ := of_hid e
  rw [hid_at (i a z)]
  exact h a o z e
def offB (b : Addr) : Addr → Bool := fun a => decide (a = b)
theorem offB_ne {a b : Addr} (h : offB b a = false) : a ≠ b := of_decide_eq_false h
theorem offB_of {a b : Addr} (h : a ≠ b) : offB b a = false := decide_eq_false h
theorem del_same_of {b : Addr} {H H' : Hp} (h : Kp b H H') : Same (hid (offB b) H) (hid (offB b) H') := hid_same (fun _ z => z) fun a o z e => h a o (offB_ne z) e
theorem hid_sub {S : Addr → Bool} {H : Hp} : Same (hid S H) H := fun a o e => (of_hid e).2
theorem same_new {p : Addr} {H : Hp} {o : HO} (h : H p = none) : Same H (upd H p o) := fun a x e => by
  rw [upd_ne (ne_of_none e h)]
  exact e
/-- v stands for d, whatever stands at b -/
abbrev DB (K : PySem.W.Frag) (b : Addr) (H : Hp) (v : V) (d : PyData) : Prop := Dq K (hid (offB b) H) v d
abbrev DBA (K : PySem.W.Frag) (b : Addr) (H : Hp) (vs : List V) (ds : List PyData) : Prop := DqA K (hid (offB b) H) vs ds
/-! displays of data: outside of what S takes away -/
def tDat (K : PySem.W.Frag) (d : PyData) : TE := fun _ H Q => ∃ S : Addr → Bool, (∀ a, S a = true → H a ≠ none) ∧ ∀ v H', Same H H' → Dq K (hid S H') v d → Q v H'
def tDats (K : PySem.W.Frag) (ds : List PyData) : TA := fun _ H Q => ∃ S : Addr → Bool, (∀ a, S a = true → H a ≠ none) ∧ ∀ vs H', Same H H' → DqA K (hid S H') vs ds → Q vs H'
theorem pe_weak {X : Cx} {e : Expr} {t t' : TE} (h : PE X e t) (i : ∀ σ H Q, t' σ H Q → t σ H Q) : PE X e t' := ⟨fun pins s σ H Q I q => h.run pins s σ H Q I (i σ H Q q)⟩
theorem pa_weak {X : Cx} {es : List Expr} {t t' : TA} (h : PA X es t) (i : ∀ σ H Q, t' σ H Q → t σ H Q) : PA X es t' := ⟨fun pos pins s σ H Q I q => h.run pos pins s σ H Q I (i σ H Q q)⟩
section
variable {X : Cx} {K : PySem.W.Frag} {pos : Pos}
theorem pd_non {j} : PE X (.Constant .none j pos) (tDat K .none) := pe_weak pe_non fun _ H _ ⟨_, _, h⟩ => h _ H (Same.refl H) .non
theorem pd_bl {j} {c : Bool} : PE X (.Constant (.bool c) j pos) (tDat K (.bool c)) := pe_weak pe_bl fun _ H _ ⟨_, _, h⟩ => h _ H (Same.refl H) (.bl c)
theorem pd_int {i : Int} {j} : PE X (.Constant (.int i) j pos) (tDat K (.int i)) := pe_weak pe_int fun _ H _ ⟨_, _, h⟩ => h _ H (Same.refl H) (.int i)
theorem pd_str {x : Str} {j} : PE X (.Constant (.str x) j pos) (tDat K (.str x)) := pe_weak pe_str fun _ H _ ⟨_, _, h⟩ => h _ H (Same.refl H) (.str x)
theorem pd_nil : PA X [] (tDats K []) := pa_weak pa_nil fun _ H _ ⟨_, _, h⟩ => h _ H (Same.refl H) .nil
theorem some_of {b : Addr} {H H' : Hp} (h : H b ≠ none) (s : Same H H') : H' b ≠ none := by
  cases e : H b with
  | none => exact absurd e h
  | some o =>
    rw [s _ _ e]
    exact fun z => nomatch z
theorem hid_mono {S : Addr → Bool} {H H' : Hp} (s : Same H H') : Same (hid S H) (hid S H') := hid_same (fun _ z => z) fun a o _ e => s a o e
theorem out_of {S : Addr → Bool} {H : Hp} {p : Addr} (h : ∀ a, S a = true → H a ≠ none) (hp : H p = none) : S p = false := by
  cases z : S p with
  | false => rfl
  | true => exact absurd hp (h p z)
theorem pd_cons {e : Expr} {es : List Expr} {d : PyData} {ds : List PyData} (he : PE X e (tDat K d)) (hr : PA X es (tDats K ds))
    (hs : starEach (e :: es) X.env = (false, eval e X.env) :: starEach es X.env := by rfl) : PA X (e :: es) (tDats K (d :: ds)) :=
  pa_weak (pa_cons he hr hs) fun _ H _ ⟨S, h1, h2⟩ => ⟨S, h1, fun v H1 s1 d1 => ⟨S, fun a z => some_of (h1 a z) s1, fun vs H2 s2 d2 => h2 _ H2 (s1.trans s2) (.cons (d1.mono (hid_mono s2)) d2)⟩⟩
theorem pd_tup {es : List Expr} {x1} {ds : List PyData} (h : PA X es (tDats K ds)) (hl : ds.length ≤ 1000 := by simp) : PE X (.Tuple es x1 pos) (tDat K (.tuple ds)) :=
  pe_weak (pe_tup h) fun _ H _ ⟨S, q1, q2⟩ => ⟨S, q1, fun vs H1 s1 d1 => ⟨few_line (by have := d1.length; omega), fun p hp => q2 _ _ (s1.trans (same_new hp))
    (.tup (.inl (.inl (by rw [hid_at (out_of (fun a z => some_of (q1 a z) s1) hp), upd_same]))) (d1.mono (hid_mono (same_new hp))))⟩⟩
theorem pd_lst {es : List Expr} {ds : List PyData} (h : PA X es (tDats K ds)) (hl : ds.length ≤ 1000 := by simp) : PE X (.List es pos) (tDat K (.list ds)) :=
  pe_weak (pe_lst h) fun _ H _ ⟨S, q1, q2⟩ => ⟨S, q1, fun vs H1 s1 d1 => ⟨few_line (by have := d1.length; omega), fun p hp => q2 _ _ (s1.trans (same_new hp))
    (.lst (.inl (.inl (by rw [hid_at (out_of (fun a z => some_of (q1 a z) s1) hp), upd_same]))) (d1.mono (hid_mono (same_new hp))))⟩⟩
theorem pd_dnil : PE X (.Dict [] [] pos) (tDat K (.dict [])) :=
  pe_weak pe_dnewK fun _ H _ ⟨S, q1, q2⟩ p hp => q2 _ _ (same_new hp) (.dic (kvs := []) (ds := []) (by rw [hid_at (out_of q1 hp), upd_same]) .nil)
theorem pd_done {x : Str} {j} {p1 : Pos} {e : Expr} {d : PyData} (h : PE X e (tDat K d)) : PE X (.Dict [some (.Constant (.str x) j p1)] [e] pos) (tDat K (.dict [(.str x, d)])) := by
  refine pe_weak (pe_disp (pps_cons pe_str h pps_nil) rfl rfl (by simp) (by simp)) fun σ H Q ⟨S, q1, q2⟩ p hp => ?_
  have sp : S p = false := out_of q1 hp
  -- the new dict itself is taken away while its value is made
  refine ⟨fun a => S a || decide (a = p), fun a z => ?_, fun v H1 s1 d1 => ⟨s1 _ _ upd_same, [(.inr x, v)], rfl, by simp, ?_⟩⟩
  · by_cases e : a = p
    · subst e
      rw [upd_same]
      exact fun z => nomatch z
    · rw [upd_ne e]
      exact q1 a (by simpa [e] using z)
  have k : Same H (upd H1 p (.dK [(.inr x, v)])) := fun a o e => by
    rw [upd_ne (ne_of_none e hp)]
    exact s1 _ _ (by rw [upd_ne (ne_of_none e hp)]; exact e)
  refine q2 _ _ k (.dic (kvs := [(.inr x, v)]) (ds := [d]) (by rw [hid_at sp, upd_same]; rfl) (.cons (d1.mono (hid_same (fun a z => ?_) fun a o z e => ?_)) .nil))
  · simp only [Bool.or_eq_false_iff] at z
    exact z.1
  · simp only [Bool.or_eq_false_iff, decide_eq_false_iff_not] at z
    show upd H1 p _ a = some o
    rw [upd_ne z.2]
    exact e
theorem pd_neg {i : Int} {j} {p1 : Pos} : PE X (.UnaryOp .USub (.Constant (.int i) j p1) pos) (tDat K (.int (-i))) :=
  pe_weak (pe_un un_neg pe_int) fun _ H _ ⟨_, _, h⟩ => ⟨i, rfl, h _ H (Same.refl H) (.int _)⟩
theorem pd_pow {i n : Int} {j l} {p1 p2 : Pos} (h1 : CPow i n := by exact ⟨by decide, by decide, by decide⟩) : PE X (.BinOp (.Constant (.int i) j p1) .Pow (.Constant (.int n) l p2) pos) (tDat K (.int (i ^ n.toNat))) :=
  pe_weak (pe_op op_pow pe_int pe_int) fun _ H _ ⟨_, _, h⟩ => ⟨i, n, rfl, rfl, h1, h _ H (Same.refl H) (.int _)⟩
end
end Ly

namespace Ly
open PySem PySem.Spec PyProof.Rows L2
/-! sets of objects of any kind of keys (HandS.TupSets has them for tuples of ints; here for any HeapKind, so for tuples of texts too) -/
/-- what else a set asks of its keys -/
structure SetKey {P : Program} {w : World} {α : Type} [DecidableEq α] (κ : HeapKind P w α) : Prop where
  cls : ∀ {A : Around} {E : Value → Shared → Prop} {s : Shared} {k : α} {b : Addr} {Q : Bool → Shared → Prop}, κ.is s.heap k b → Q false s → wpAny (model P w) A (ofAClassStatement 8 (.ref b)) Q E s
  byv : ∀ {A : Around} {E : Value → Shared → Prop} {s : Shared} {k : α} {b : Addr} {Q : Bool → Shared → Prop}, κ.is s.heap k b → (∀ c, Q c s) → wpAny (model P w) A (hashByValue 8 (.ref b)) Q E s
  but : ∀ {h h' : Heap} {k : α} {b a : Addr} {o : Obj} {es : Array (Int × Value)} {ep : Nat} {t : SetTable}, κ.is h k b → h.get? a = some o → o.data = .set es ep t → Heap.SameBut a h h' → κ.is h' k b
  ext : ∀ {h h' : Heap} {k : α} {b : Addr}, κ.is h k b → (∀ c o, h.get? c = some o → h'.get? c = some o) → κ.is h' k b
/-! the way of a hash, step by step -/
def wy (m : Nat) (h : Int) (c : Nat) : SetTable.Probe := nth m (runAt m (SetTable.bits h % (m + 1)) (SetTable.bits h)) c
theorem wy_more (m : Nat) (h : Int) (c d : Nat) : nth m (wy m h c) d = wy m h (c + d) := (nth_add m c _ d).symm
theorem nth_dm (m : Nat) : ∀ (c : Nat) (p : SetTable.Probe), p.dummy = none → (nth m p c).dummy = none
  | 0, _, e => e
  | c + 1, p, e => nth_dm m c (adv m p) (by
    unfold adv
    split
    · exact e
    · exact e)
/-- a probe from the c-th step on: the next entry of that hash, or the empty place at the end of the way -/
theorem probe_next {t : SetTable} {hs : List Int} (T : TabOk t hs) {f : Nat → Int} (hf : ∀ (i : Nat) (z : Int), hs[i]? = some z → f i = z) {h : Int} {K : Nat} (big : K < 10 * SetTable.turns t.mask)
    (free : way t.mask h K ∉ t.place.toList) (full : ∀ c, c < K → way t.mask h c ∈ t.place.toList) {c : Nat} (hc : c ≤ K) :
    (∃ (d i : Nat), c ≤ d ∧ d < K ∧ t.place.toList[i]? = some (way t.mask h d) ∧ hs[i]? = some h ∧ (∀ (d' i' : Nat), c ≤ d' → d' < d → t.place.toList[i']? = some (way t.mask h d') → hs[i']? ≠ some h) ∧
      t.probe f h (wy t.mask h c) = some (.candidate (way t.mask h d) i (wy t.mask h (d + 1)))) ∨
    ((∀ (d' i' : Nat), c ≤ d' → d' < K → t.place.toList[i']? = some (way t.mask h d') → hs[i']? ≠ some h) ∧ t.probe f h (wy t.mask h c) = some (.empty (way t.mask h K) none)) := by
  have ej : ∀ d, (nth t.mask (wy t.mask h c) d).j = way t.mask h (c + d) := fun d => congrArg SetTable.Probe.j (wy_more t.mask h c d)
  have ln : t.place.toList.length = hs.length := by
    rw [Array.length_toList]
    exact T.sz
  have at_ : ∀ (i j : Nat), t.place.toList[i]? = some j → ∃ z, hs[i]? = some z := fun i j e => by
    have q := (List.getElem?_eq_some_iff.mp e).1
    rw [ln] at q
    exact ⟨_, List.getElem?_eq_getElem q⟩
  have S := go_spec t T.ris T.dm f h (10 * SetTable.turns t.mask) (K - c) (wy t.mask h c) (nth_dm t.mask c _ rfl) (Nat.lt_of_le_of_lt (Nat.sub_le K c) big)
    (fun d hd => by
      rw [ej d]
      exact full _ (by omega))
    (by
      rw [ej, Nat.add_sub_of_le hc]
      exact free)
  rcases S with ⟨d, i, b1, b2, b3, b4, b5⟩ | ⟨b1, b2⟩
  · left
    rw [ej] at b2 b5
    rw [wy_more] at b5
    refine ⟨c + d, i, Nat.le_add_right _ _, by omega, b2, ?_, fun d' i' c1 c2 c3 c4 => ?_, b5⟩
    · obtain ⟨z, ez⟩ := at_ i _ b2
      rw [ez, ← hf i z ez, b3]
    · refine b4 (d' - c) i' (by omega) ?_ (hf i' h c4)
      rw [ej, Nat.add_sub_of_le c1]
      exact c3
  · right
    rw [ej, Nat.add_sub_of_le hc] at b2
    refine ⟨fun d' i' c1 c2 c3 c4 => ?_, b2⟩
    refine b1 (d' - c) i' (by omega) ?_ (hf i' h c4)
    rw [ej, Nat.add_sub_of_le c1]
    exact c3
section
variable {P : Program} {w : World} {α : Type} [DecidableEq α] {κ : HeapKind P w α} {A : Around} {E : Value → Shared → Prop} {s : Shared}
/-- searching among such keys shows nothing of the table -/
theorem quiet_search (sk : SetKey κ) {k : α} {b : Addr} {Q : Bool → Shared → Prop} (hk : κ.is s.heap k b) : ∀ {ys : List Value}, (∀ y ∈ ys, ∃ q : Addr × α, y = Value.ref q.1 ∧ κ.is s.heap q.2 q.1) → Q false s → wpAny (model P w) A (searchCouldBeSeen (.ref b) ys) Q E s := by
  intro ys hy hq
  unfold searchCouldBeSeen
  refine wpAny_bind (wpAny_forIn_list _ (fun more acc now => acc.1 = none ∧ now = s ∧ ∀ y ∈ more, ∃ q : Addr × α, y = Value.ref q.1 ∧ κ.is s.heap q.2 q.1) _ (fun v more acc now ih => ?_) (fun acc now ih => ?_) _ _ ⟨rfl, rfl, hy⟩)
  · obtain ⟨e0, rfl, each⟩ := ih
    obtain ⟨⟨c, k2⟩, rfl, hc⟩ := each v List.mem_cons_self
    have left : ∀ y ∈ more, ∃ q : Addr × α, y = Value.ref q.1 ∧ κ.is now.heap q.2 q.1 := fun y m => each y (List.mem_cons_of_mem _ m)
    dsimp only
    by_cases same : (b == c || (carriedByValue (.ref b) && carriedByValue (.ref c))) = true
    · exact wp_if_pos same (wpAny_pure ⟨rfl, rfl, left⟩)
    · refine wp_if_neg same (wpAny_bind (κ.quiet hk ?_))
      simp only [Bool.not_true, Bool.false_eq_true, if_false]
      refine wpAny_bind (κ.quiet hc ?_)
      simp only [Bool.not_true, Bool.false_eq_true, if_false]
      refine wpAny_bind (sk.cls hk ?_)
      simp only [Bool.false_eq_true, if_false]
      refine wpAny_bind (sk.cls hc ?_)
      simp only [Bool.false_eq_true, if_false]
      exact wpAny_pure ⟨rfl, rfl, left⟩
  · obtain ⟨a1, a2⟩ := acc
    obtain ⟨e0, rfl, -⟩ := ih
    dsimp only at e0
    subst e0
    exact wpAny_pure hq
/-- the rows of the table, by the keys -/
def rws (κ : HeapKind P w α) (L : List (Addr × α)) : List (Int × Value) := L.map fun q => (κ.hash q.2, Value.ref q.1)
/-- the hashes -/
def hsh (κ : HeapKind P w α) (L : List (Addr × α)) : List Int := L.map fun q => κ.hash q.2
/-- at a stands a set of the keys L, in its table -/
structure Stands (κ : HeapKind P w α) (h : Heap) (a : Addr) (L : List (Addr × α)) (es : Array (Int × Value)) (ep : Nat) (t : SetTable) : Prop where
  obj : ∃ o, h.get? a = some o ∧ o.ExactSet ∧ o.data = .set es ep t
  row : es.toList = rws κ L
  ok : TabOk t (hsh κ L)
  once : (L.map (·.2)).Nodup
  key : ∀ q ∈ L, κ.is h q.2 q.1
  led : w.params.followText "set-order" = true ∨ t.led = true
  air : L.length * 5 < t.mask * 3
  few : L.length < 64
variable {a : Addr} {L : List (Addr × α)} {es : Array (Int × Value)} {ep : Nat} {t : SetTable}
theorem rws_len (e : es.toList = rws κ L) : es.size = L.length := by
  rw [← Array.length_toList, e]
  exact List.length_map ..
theorem hsh_len : (hsh κ L).length = L.length := List.length_map ..
theorem rws_at (e : es.toList = rws κ L) {i : Nat} {q : Addr × α} (h : L[i]? = some q) : es[i]? = some (κ.hash q.2, Value.ref q.1) := by
  rw [← Array.getElem?_toList, e, rws, List.getElem?_map, h]
  rfl
theorem Stands.fits (R : Stands κ s.heap a L es ep t) : t.fits es.size = true := by
  have z := R.ok.sz
  rw [hsh_len, ← rws_len R.row] at z
  have y := R.air
  rw [← rws_len R.row] at y
  unfold SetTable.fits SetTable.fill
  rw [R.ok.dm]
  simp only [Bool.and_eq_true, beq_iff_eq, decide_eq_true_eq]
  refine ⟨z, ?_⟩
  show t.place.size + 0 ≤ t.mask
  omega
theorem Stands.hs_at (R : Stands κ s.heap a L es ep t) {i : Nat} {z : Int} (h : (hsh κ L)[i]? = some z) : ∃ q, L[i]? = some q ∧ κ.hash q.2 = z := by
  rw [hsh, List.getElem?_map] at h
  match e : L[i]? with
  | none =>
    rw [e] at h
    cases h
  | some q =>
    rw [e] at h
    exact ⟨q, rfl, Option.some.inj h⟩
/-- THE SEARCH that adding makes: there, or the free place -/
theorem seek (sk : SetKey κ) (R : Stands κ s.heap a L es ep t) {x : Addr} {k : α} (hx : κ.is s.heap k x) (hu : κ.room A) {K : Nat} (big : K < 10 * SetTable.turns t.mask)
    (free : way t.mask (κ.hash k) K ∉ t.place.toList) (full : ∀ c, c < K → way t.mask (κ.hash k) c ∈ t.place.toList) {Q : SetFound → Shared → Prop}
    (yes : k ∈ L.map (·.2) → Q (.there none) s) (no : k ∉ L.map (·.2) → Q (.free (way t.mask (κ.hash k) K) false) s) :
    ∀ (n c : Nat) (st : Option SetTable.Probe), st.getD (t.probeStart (κ.hash k)) = wy t.mask (κ.hash k) c → c ≤ K → K < c + n →
      (∀ (i : Nat) (q : Addr × α), L[i]? = some q → q.2 = k → ∃ c', c ≤ c' ∧ c' < K ∧ t.place.toList[i]? = some (way t.mask (κ.hash k) c')) →
      wpAny (model P w) A (setSearchFrom a (.ref x) (κ.hash k) true n st) Q E s := by
  intro n
  induction n with
  | zero =>
    intro c st _ h1 h2
    omega
  | succ n ih =>
    intro c st est hc hn ahead
    obtain ⟨o, ho, hex, hd⟩ := R.obj
    have gw : ¬ t.gaveWay = true := by
      unfold SetTable.gaveWay
      rw [mask_odd R.ok.mok]
      decide
    have hf : ∀ (i : Nat) (z : Int), (hsh κ L)[i]? = some z → (fun (i : Nat) => (es[i]?.map (·.1)).getD 0) i = z := fun i z e => by
      obtain ⟨q, e1, e2⟩ := R.hs_at e
      show (es[i]?.map (·.1)).getD 0 = z
      rw [rws_at R.row e1, ← e2]
      rfl
    rw [setSearchFrom_succ]
    refine wpAny_bind (wpAny_setState_of ho hd R.fits ?_)
    dsimp only
    refine wp_if_neg gw ?_
    try refine wpAny_bind (wpAny_pure ?_)
    rw [est]
    rcases probe_next R.ok hf big free full hc with ⟨d, i, d1, d2, d3, d4, d5, d6⟩ | ⟨d5, d6⟩
    · rw [d6]
      dsimp only
      obtain ⟨q, eq, hq⟩ := R.hs_at d4
      have mq : q ∈ L := List.mem_of_getElem? eq
      have body : wpAny (model P w) A (searchRest a (.ref x) (κ.hash k) true n es t (way t.mask (κ.hash k) d) i (wy t.mask (κ.hash k) (d + 1))) Q E s := by
        unfold searchRest
        rw [rws_at R.row eq]
        dsimp only
        refine wpAny_bind (wpAny_holding (κ.eqBool hu (R.key q mq) hx (wpAny_bind (wpAny_setState_of ho hd R.fits ?_))))
        dsimp only
        by_cases c1 : q.2 = k
        · exact wp_if_pos (by simp [c1]) (wpAny_pure (yes (List.mem_map.mpr ⟨q, mq, c1⟩)))
        · refine wp_if_neg (by simp [c1]) ?_
          try refine wpAny_bind (wpAny_pure ?_)
          have live : t.slot (way t.mask (κ.hash k) d) = .live i := slot_live R.ok.ris d3
          rw [sameMem]
          simp only [if_true, live, rws_at R.row eq]
          refine wpAny_bind (wpAny_isSame_ref_self (wpAny_bind (wpAny_pure ?_)))
          simp only [if_true]
          refine wp_if_neg (by simp [c1]) (ih (d + 1) _ rfl d2 (by omega) fun i0 q0 e0 ek => ?_)
          obtain ⟨c', f1, f2, f3⟩ := ahead i0 q0 e0 ek
          have h0 : (hsh κ L)[i0]? = some (κ.hash k) := by
            rw [hsh, List.getElem?_map, e0, ← ek]
            rfl
          refine ⟨c', ?_, f2, f3⟩
          rcases Nat.lt_trichotomy c' d with z | z | z
          · exact absurd h0 (d5 c' i0 f1 z f3)
          · subst z
            have l2 := slot_live R.ok.ris f3
            rw [live] at l2
            injection l2 with l2
            subst l2
            rw [eq] at e0
            exact absurd (by rw [Option.some.inj e0]; exact ek) c1
          · exact z
      by_cases led : t.led = true
      · refine wp_if_neg (by simp [led]) ?_
        try refine wpAny_bind (wpAny_pure ?_)
        exact body
      · refine wp_if_pos (by simp [led]) (wpAny_bind (quiet_search sk hx (fun y hy => ?_) ?_))
        · obtain ⟨r, m1, rfl⟩ := List.mem_map.mp hy
          have m2 : r ∈ es.toList := by
            have m3 : r ∈ es ∧ r.1 = κ.hash k := by simpa using m1
            simpa using m3.1
          rw [R.row] at m2
          obtain ⟨q2, m4, rfl⟩ := List.mem_map.mp m2
          exact ⟨q2, rfl, R.key q2 m4⟩
        · refine wp_if_neg (by decide) ?_
          try refine wpAny_bind (wpAny_pure ?_)
          exact body
    · rw [d6]
      dsimp only
      refine wpAny_pure (no fun hm => ?_)
      obtain ⟨q0, m0, ek⟩ := List.mem_map.mp hm
      obtain ⟨i0, l0, e0⟩ := List.getElem_of_mem m0
      have e1 : L[i0]? = some q0 := by rw [List.getElem?_eq_getElem l0, e0]
      obtain ⟨c', f1, f2, f3⟩ := ahead i0 q0 e1 ek
      refine d5 c' i0 f1 f2 f3 ?_
      rw [hsh, List.getElem?_map, e1, ← ek]
      rfl
theorem seek_all (sk : SetKey κ) (R : Stands κ s.heap a L es ep t) {x : Addr} {k : α} (hx : κ.is s.heap k x) (hu : κ.room A) {Q : SetFound → Shared → Prop} (yes : k ∈ L.map (·.2) → Q (.there none) s)
    (no : ∀ K, k ∉ L.map (·.2) → way t.mask (κ.hash k) K ∉ t.place.toList → (∀ c, c < K → way t.mask (κ.hash k) c ∈ t.place.toList) → Q (.free (way t.mask (κ.hash k) K) false) s) :
    wpAny (model P w) A (setSearch a (.ref x) (κ.hash k) true) Q E s := by
  have y := R.air
  obtain ⟨K, big, free, full⟩ := R.ok.first (by rw [hsh_len]; omega) (κ.hash k)
  have small : 10 * SetTable.turns t.mask ≤ 1420 := by
    unfold SetTable.turns
    rcases R.ok.mok with e | e | e
    all_goals omega
  unfold setSearch
  refine seek sk R hx hu big free full yes (fun n => no K n free full) 100000 0 none rfl (Nat.zero_le _) (by omega) fun i q e ek => ?_
  have h0 : (hsh κ L)[i]? = some (κ.hash k) := by
    rw [hsh, List.getElem?_map, e, ← ek]
    rfl
  have l0 : i < t.place.toList.length := by
    rw [Array.length_toList, R.ok.sz]
    exact (List.getElem?_eq_some_iff.mp h0).1
  obtain ⟨c, b1, b2⟩ := R.ok.before free h0 (List.getElem?_eq_getElem l0)
  exact ⟨c, Nat.zero_le _, b1, by rw [List.getElem?_eq_getElem l0, b2]⟩
end
end Ly

namespace Ly
open PySem PySem.Spec PyProof.Rows L2
section
variable {P : Program} {w : World} {α : Type} [DecidableEq α] {κ : HeapKind P w α} {A : Around} {E : Value → Shared → Prop} {s : Shared}
variable {a : Addr} {L : List (Addr × α)} {es : Array (Int × Value)} {ep : Nat} {t : SetTable}
/-- rows picked by a list of places -/
theorem rows_by (e : es.toList = rws κ L) : ∀ ns : List Nat, (∀ i ∈ ns, i < L.length) →
    ns.filterMap (fun i => es[i]?) = rws κ (ns.filterMap fun i => L[i]?) ∧ hsh κ (ns.filterMap fun i => L[i]?) = ns.map fun i => (es.map (·.1)).getD i 0
  | [], _ => ⟨rfl, rfl⟩
  | i :: ns, h => by
    obtain ⟨b1, b2⟩ := rows_by e ns fun j hj => h j (List.mem_cons_of_mem _ hj)
    have lt := h i List.mem_cons_self
    have at1 : L[i]? = some L[i] := List.getElem?_eq_getElem lt
    have at2 := rws_at e at1
    have sz : i < (es.map (·.1)).size := by
      rw [Array.size_map, rws_len e]
      exact lt
    have at3 : (es.map (·.1)).getD i 0 = κ.hash (L[i]).2 := by
      have z : (es.map (·.1))[i]? = some (κ.hash (L[i]).2) := by
        rw [Array.getElem?_map, at2]
        rfl
      rw [Array.getD_eq_getD_getElem?, z]
      rfl
    rw [List.filterMap_cons_some at1, List.filterMap_cons_some at2, b1, List.map_cons, at3, ← b2]
    exact ⟨rfl, rfl⟩
theorem range_pick {β : Type} (l : List β) : (List.range l.length).filterMap (fun i => l[i]?) = l := by
  have go : ∀ n, n ≤ l.length → (List.range n).filterMap (fun i => l[i]?) = l.take n := by
    intro n
    induction n with
    | zero => exact fun _ => rfl
    | succ n ih =>
      intro hn
      have lt : n < l.length := hn
      rw [List.range_succ, List.filterMap_append, ih (Nat.le_of_lt lt), List.take_succ, List.getElem?_eq_getElem lt, List.filterMap_cons_some (List.getElem?_eq_getElem lt)]
      rfl
  rw [go _ (Nat.le_refl _), List.take_length]
/-- all laid anew in a greater table -/
theorem relay (sk : SetKey κ) {o : Obj} (ho : s.heap.get? a = some o) (hex : o.ExactSet) (hd : o.data = .set es ep t) (hrow : es.toList = rws κ L) (hok : TabOk t (hsh κ L)) (hroom : L.length ≤ t.mask) (once : (L.map (·.2)).Nodup)
    (key : ∀ q ∈ L, κ.is s.heap q.2 q.1) (led : w.params.followText "set-order" = true ∨ t.led = true) (few : L.length < 64) {n M : Nat} (hM : SetTable.sizeAbove n - 1 = M) (mk : MaskOk M) (lim : SetTable.sizeAbove n ≤ 128)
    (air : L.length * 5 < M * 3) {Q : Unit → Shared → Prop} (h : ∀ h' L' es' ep' t', Heap.SameBut a s.heap h' → Stands κ h' a L' es' ep' t' → L'.Perm L → Q () { s with heap := h' }) : wpAny (model P w) A (setRelay a n) Q E s := by
  have len := rws_len hrow
  have fits : t.fits es.size = true := by
    have z := hok.sz
    rw [hsh_len, ← len] at z
    unfold SetTable.fits SetTable.fill
    rw [hok.dm]
    simp only [Bool.and_eq_true, beq_iff_eq, decide_eq_true_eq]
    refine ⟨z, ?_⟩
    show t.place.size + 0 ≤ t.mask
    omega
  obtain ⟨t2, ord, e1, pm, T2, m2, l2, p2, -⟩ := relaid_ok t (hs := es.map (·.1)) (wanted := n) hM mk (by rw [Array.size_map, len]; omega)
  rw [Array.size_map, len] at pm
  obtain ⟨b1, b2⟩ := rows_by hrow ord.toList fun i hi => List.mem_range.mp (pm.mem_iff.mp hi)
  generalize hL2 : (ord.toList.filterMap fun i => L[i]?) = L2 at b1 b2
  have pL : L2.Perm L := by
    have z := pm.filterMap fun i => L[i]?
    rw [hL2, range_pick] at z
    exact z
  have arr : (ord.filterMap (es[·]?)).toList = rws κ L2 := by
    rw [Array.toList_filterMap]
    exact b1
  have sz : (ord.filterMap (es[·]?)).size = es.size := by
    rw [rws_len arr, pL.length_eq, len]
  rw [← b2] at T2
  rw [setRelay_eq]
  refine wpAny_bind (wpAny_setState_of ho hd fits ?_)
  dsimp only
  refine wp_if_neg (by rw [sizeLine_eq]; omega) ?_
  try refine wpAny_bind (wpAny_pure ?_)
  rw [e1]
  dsimp only
  refine wpAny_bind (wp_if_neg (by rw [sz]; simp) ?_)
  try refine wpAny_bind (wpAny_pure ?_)
  refine wpAny_pure ?_
  dsimp only
  have sb : Heap.SameBut a s.heap (s.heap.update a (Obj.putSet (ord.filterMap (es[·]?)) t2)) := Heap.SameBut.update ..
  refine wpAny_storeSet_of ho hd (h _ L2 _ (ep + 1) t2 sb ⟨⟨_, store_at ho hd, ⟨hex.1, hex.2.1, hex.2.2⟩, rfl⟩, arr, T2, (pL.map (·.2)).nodup_iff.mpr once, fun q hq => sk.but (key q (pL.mem_iff.mp hq)) ho hd sb, ?_, ?_, ?_⟩ pL) ?_
  · rw [l2]
    exact led
  · rw [pL.length_eq, m2]
    exact air
  · rw [pL.length_eq]
    exact few
  · rw [sz, len, sizeLine_eq]
    omega
/-- behind the free place that was found -/
theorem put_rest (sk : SetKey κ) (R : Stands κ s.heap a L es ep t) {x : Addr} {k : α} (hx : κ.is s.heap k x) (absent : k ∉ L.map (·.2)) {o : Obj} (ho : s.heap.get? a = some o) (hex : o.ExactSet) (hd : o.data = .set es ep t) (few : L.length + 1 < 64) {i : Nat} {t1 : SetTable}
    (u2 : i ≤ (hsh κ L).length) (u3 : TabOk t1 ((hsh κ L).take i ++ κ.hash k :: (hsh κ L).drop i)) (u4 : t1.mask = t.mask) (u5 : t1.led = t.led) (u9 : t1.fill = (hsh κ L).length + 1) {Q : Bool → Shared → Prop}
    (h : ∀ b h' L' es' ep' t', Heap.SameBut a s.heap h' → Stands κ h' a L' es' ep' t' → (k ∈ L.map (·.2) → L' = L) → (k ∉ L.map (·.2) → L'.Perm ((x, k) :: L)) → Q b { s with heap := h' }) :
    wpAny (model P w) A (do
      storeSet a (SetTable.insertAt es i (κ.hash k, Value.ref x)) t1
      if (!false && t1.tooFull) = true then do
        setRelay a (SetTable.grown (es.size + 1))
        pure true
      else pure true) Q E s := by
  have len := rws_len R.row
  have air := R.air
  generalize hL1 : L.take i ++ (x, k) :: L.drop i = L1
  have pm : L1.Perm ((x, k) :: L) := by
    rw [← hL1]
    refine List.perm_middle.trans ?_
    rw [List.take_append_drop]
  have row1 : (SetTable.insertAt es i (κ.hash k, Value.ref x)).toList = rws κ L1 := by
    rw [SetTable.toList_insertAt, R.row, ← hL1]
    simp only [rws, List.map_append, List.map_cons, List.map_take, List.map_drop]
  have ok1 : TabOk t1 (hsh κ L1) := by
    have e : (hsh κ L).take i ++ κ.hash k :: (hsh κ L).drop i = hsh κ L1 := by
      rw [← hL1]
      simp only [hsh, List.map_append, List.map_cons, List.map_take, List.map_drop]
    rw [← e]
    exact u3
  have len1 : L1.length = L.length + 1 := pm.length_eq
  have once1 : (L1.map (·.2)).Nodup := by
    rw [(pm.map (·.2)).nodup_iff]
    exact List.nodup_cons.mpr ⟨absent, R.once⟩
  generalize SetTable.insertAt es i (κ.hash k, Value.ref x) = es1 at row1 ⊢
  have sz1 := rws_len row1
  refine wpAny_bind (wpAny_storeSet_of ho hd ?_ (by rw [sz1, len1, sizeLine_eq]; omega))
  have sb : Heap.SameBut a s.heap (s.heap.update a (Obj.putSet es1 t1)) := Heap.SameBut.update ..
  have ho1 := store_at (es' := es1) (t' := t1) ho hd
  generalize s.heap.update a (Obj.putSet es1 t1) = h1 at sb ho1 ⊢
  have key1 : ∀ q ∈ L1, κ.is h1 q.2 q.1 := fun q hq => by
    rcases List.mem_cons.mp (pm.mem_iff.mp hq) with rfl | m
    · exact sk.but hx ho hd sb
    · exact sk.but (R.key q m) ho hd sb
  have led1 : w.params.followText "set-order" = true ∨ t1.led = true := by
    rw [u5]
    exact R.led
  rw [hsh_len] at u9
  by_cases full1 : t1.tooFull = true
  · first
      | refine wp_if_pos (by simp [full1]) (wpAny_bind ?_)
      | refine wpAny_bind (wp_if_pos (by simp [full1]) ?_)
    have over : t1.mask * 3 ≤ (L.length + 1) * 5 := by
      unfold SetTable.tooFull at full1
      rw [decide_eq_true_eq, u9] at full1
      exact full1
    rw [u4] at over
    rw [len]
    have way2 : ∀ M, SetTable.sizeAbove (SetTable.grown (L.length + 1)) - 1 = M → MaskOk M → SetTable.sizeAbove (SetTable.grown (L.length + 1)) ≤ 128 → (L.length + 1) * 5 < M * 3 → L.length + 1 ≤ t.mask →
        wpAny (model P w) A (setRelay a (SetTable.grown (L.length + 1))) (fun _ s' => wpAny (model P w) A (pure true) Q E s') E { s with heap := h1 } := fun M c1 c2 c3 c4 c5 =>
      relay sk (s := { s with heap := h1 }) ho1 ⟨hex.1, hex.2.1, hex.2.2⟩ rfl row1 ok1 (by rw [len1, u4]; exact c5) once1 key1 led1 (by rw [len1]; exact few) c1 c2 c3 (by rw [len1]; exact c4)
        fun h2 L2 es2 ep2 t2 sb2 R2 pm2 => wpAny_pure (h true h2 L2 es2 ep2 t2 (sb.trans sb2) R2 (fun z => absurd z absent) fun _ => pm2.trans pm)
    rcases R.ok.mok with e | e | e
    · have e2 : L.length = 4 := by omega
      exact way2 31 (by rw [e2, size_20]) (.inr (.inl rfl)) (by rw [e2, size_20]; decide) (by omega) (by omega)
    · have e2 : L.length = 18 := by omega
      exact way2 127 (by rw [e2, size_76]) (.inr (.inr rfl)) (by rw [e2, size_76]; decide) (by omega) (by omega)
    · omega
  · first
      | refine wp_if_neg (by simp [full1]) ?_
      | refine wpAny_bind (wp_if_neg (by simp [full1]) (wpAny_pure ?_))
    refine wpAny_pure (h true h1 L1 es1 (ep + 1) t1 sb ⟨⟨_, ho1, ⟨hex.1, hex.2.1, hex.2.2⟩, rfl⟩, row1, ok1, once1, key1, led1, ?_, by rw [len1]; exact few⟩ (fun z => absurd z absent) fun _ => pm)
    unfold SetTable.tooFull at full1
    rw [decide_eq_true_eq, u9] at full1
    rw [len1]
    omega
/-- ADDING a key -/
theorem put_key (sk : SetKey κ) (R : Stands κ s.heap a L es ep t) {x : Addr} {k : α} (hx : κ.is s.heap k x) (hu : κ.room A) (few : L.length + 1 < 64) {Q : Bool → Shared → Prop}
    (h : ∀ b h' L' es' ep' t', Heap.SameBut a s.heap h' → Stands κ h' a L' es' ep' t' → (k ∈ L.map (·.2) → L' = L) → (k ∉ L.map (·.2) → L'.Perm ((x, k) :: L)) → Q b { s with heap := h' }) :
    wpAny (model P w) A (setAddHashed a (.ref x) (κ.hash k)) Q E s := by
  obtain ⟨o, ho, hex, hd⟩ := R.obj
  have len := rws_len R.row
  have air := R.air
  unfold setAddHashed
  rw [show (100000 : Nat) = 99999 + 1 from rfl, setAddHashedIn_succ]
  refine wpAny_holding (wpAny_bind (wpAny_setState_of ho hd R.fits ?_))
  dsimp only
  refine wp_if_neg (by simp [byScan, Value.scannable]) ?_
  try refine wpAny_bind (wpAny_pure ?_)
  refine wpAny_bind (seek_all sk R hx hu (fun there => ?_) fun K absent free full => ?_)
  · exact wpAny_pure (h false s.heap L es ep t (Heap.SameBut.refl a s.heap) R (fun _ => rfl) fun z => absurd there z)
  · refine wpAny_bind (wpAny_setState_of ho hd R.fits ?_)
    dsimp only
    obtain ⟨u1, u2, u3, u4, u5, -, -, -, u9⟩ := R.ok.put free full
    generalize hput : t.put (way t.mask (κ.hash k) K) = put at u1 u3 u4 u5 u9 ⊢
    obtain ⟨t0, i⟩ := put
    dsimp only at u1 u3 u4 u5 u9 ⊢
    subst u1
    -- the table, marked or not
    have both : ∀ t1 : SetTable, TabOk t1 ((hsh κ L).take (SetTable.below t.place (way t.mask (κ.hash k) K)) ++ κ.hash k :: (hsh κ L).drop (SetTable.below t.place (way t.mask (κ.hash k) K))) → t1.mask = t.mask → t1.led = t.led → t1.fill = (hsh κ L).length + 1 →
        wpAny (model P w) A (do
          storeSet a (SetTable.insertAt es (SetTable.below t.place (way t.mask (κ.hash k) K)) (κ.hash k, Value.ref x)) t1
          if (!false && t1.tooFull) = true then do
            setRelay a (SetTable.grown (es.size + 1))
            pure true
          else pure true) Q E s := by
      intro t1 u3 u4 u5 u9
      exact put_rest sk R hx absent ho hex hd few u2 u3 u4 u5 u9 h
    by_cases pl : t0.plain = true
    · refine wp_if_pos pl (wpAny_bind (sk.byv hx fun c => ?_))
      cases c with
      | true => exact both t0 u3 u4 u5 u9
      | false => exact both { t0 with plain := false } ⟨u3.ris, u3.dm, u3.sz, u3.mok, u3.bd, u3.reach⟩ u4 u5 u9
    · refine wp_if_neg pl (wpAny_bind (wpAny_pure ?_))
      exact both t0 u3 u4 u5 u9
end
end Ly

namespace Ly
open PySem PySem.Spec PyProof.Rows L2
/-- what the set has of the first n keys of a list -/
structure Gets {α : Type} (ks : List (Addr × α)) (n : Nat) (L : List (Addr × α)) : Prop where
  from_ : ∀ q ∈ L, q ∈ ks.take n
  each : ∀ q ∈ ks.take n, q.2 ∈ L.map (·.2)
  most : L.length ≤ n
theorem Gets.next {α : Type} {ks L L' : List (Addr × α)} {n : Nat} {q : Addr × α} (g : Gets ks n L) (h : ks[n]? = some q) (c1 : q.2 ∈ L.map (·.2) → L' = L) (c2 : q.2 ∉ L.map (·.2) → L'.Perm (q :: L)) : Gets ks (n + 1) L' := by
  have e : ks.take (n + 1) = ks.take n ++ [q] := by
    rw [List.take_succ, h]
    rfl
  rcases Classical.em (q.2 ∈ L.map (·.2)) with c | c
  · rw [c1 c]
    refine ⟨fun r hr => ?_, fun r hr => ?_, Nat.le_succ_of_le g.most⟩
    · rw [e]
      exact List.mem_append_left _ (g.from_ r hr)
    · rw [e] at hr
      rcases List.mem_append.mp hr with m | m
      · exact g.each r m
      · rw [List.mem_singleton.mp m]
        exact c
  · have pm := c2 c
    refine ⟨fun r hr => ?_, fun r hr => ?_, ?_⟩
    · rw [e]
      rcases List.mem_cons.mp (pm.mem_iff.mp hr) with m | m
      · rw [m]
        simp
      · exact List.mem_append_left _ (g.from_ r m)
    · rw [(pm.map (·.2)).mem_iff, List.map_cons, List.mem_cons]
      rw [e] at hr
      rcases List.mem_append.mp hr with m | m
      · exact .inr (g.each r m)
      · rw [List.mem_singleton.mp m]
        exact .inl rfl
    · rw [pm.length_eq]
      exact Nat.succ_le_succ g.most
section
variable {P : Program} {w : World} {α : Type} [DecidableEq α] {κ : HeapKind P w α} {A : Around} {E : Value → Shared → Prop} {s : Shared}
/-- a set just made -/
abbrev bare (w : World) : Obj := { cls := .type "set", dict := none, data := .set #[] 0 (.fresh 0 0 (!w.params.followText "set-order")) }
theorem Stands.new {h : Heap} {a : Addr} (ho : h.get? a = some (bare w)) : Stands κ h a [] #[] 0 (.fresh 0 0 (!w.params.followText "set-order")) := by
  refine ⟨⟨_, ho, ⟨rfl, rfl, rfl⟩, rfl⟩, rfl, ⟨.nil, rfl, rfl, .inl rfl, fun x hx => (by cases hx), fun i z j e => (by simp [hsh] at e)⟩, .nil, fun q hq => (by cases hq), ?_, ?_, ?_⟩
  · cases e : w.params.followText "set-order"
    · exact .inr rfl
    · exact .inl rfl
  · show 0 * 5 < 7 * 3
    decide
  · show 0 < 64
    decide
theorem Stands.move (sk : SetKey κ) {h h' : Heap} {a : Addr} {L : List (Addr × α)} {es : Array (Int × Value)} {ep : Nat} {t : SetTable} (R : Stands κ h a L es ep t) (ha : ∀ o, h.get? a = some o → h'.get? a = some o)
    (hk : ∀ q ∈ L, κ.is h' q.2 q.1) : Stands κ h' a L es ep t := by
  obtain ⟨o, ho, r⟩ := R.obj
  exact { R with obj := ⟨o, ha o ho, r⟩, key := hk }
/-- the walk of update over a list of keys -/
theorem grow (sk : SetKey κ) {I : Addr} {fp wr : List Addr} {G : Array GenState → Array GenState → Prop} {m : Nat} {Pv : Nat → Value → Prop} {St : Nat → Shared → Prop} {R : Result → Shared → Prop} (W : WalksS P w A.in1 I fp wr G m Pv St) (S : Addr)
    (out : S ∉ fp) (ks : List (Addr × α)) (hm : m = ks.length) (few : ks.length < 64) (val : ∀ (i : Nat) (v : Value), Pv i v → ∃ q, ks[i]? = some q ∧ v = .ref q.1) (h0 : Heap) (key : ∀ q ∈ ks, κ.is h0 q.2 q.1) (new : h0.get? S = none)
    (wnew : ∀ b ∈ wr, h0.get? b = none) (hu : κ.room A.in1) : ∀ (left i : Nat) (s : Shared), m = i + left → St i s → (∀ b o, h0.get? b = some o → s.heap.get? b = some o) → (∃ L es ep t, Stands κ s.heap S L es ep t ∧ Gets ks i L) →
      (∀ s' L es ep t, Moved (S :: wr) G s s' → Stands κ s'.heap S L es ep t → Gets ks m L → (∀ b o, h0.get? b = some o → s'.heap.get? b = some o) → R (.ok (.ret .none)) s') →
      codeAny (model P w) A (.builtin "set.update.loop" ⟨[.ref S, .ref I], []⟩) R s := by
  have outw : S ∉ wr := fun z => out (W.sub _ z)
  have wide : ∀ b ∈ wr, b ∈ S :: wr := fun _ => List.mem_cons_of_mem _
  have still : ∀ {u v : Shared}, Moved wr G u v → (∀ b o, h0.get? b = some o → u.heap.get? b = some o) → ∀ b o, h0.get? b = some o → v.heap.get? b = some o := fun mv k b o e => by
    refine mv.heap b o (fun z => ?_) (k b o e)
    rw [wnew b z] at e
    cases e
  intro left
  induction left with
  | zero =>
    intro i s em st k0 ⟨L, es, ep, t, T, g⟩ fin
    have ei : i = m := em.symm
    subst ei
    refine codeAny_builtin F.entry_set_update_loop ?_
    rw [Around.under_plainId F.plain_set_update_loop _]
    show wpAny _ A.in1 (pyNext (.ref I) >>= _) _ _ s
    refine wpAny_bind (W.done s _ _ st fun s2 mv => ?_)
    have k1 := still mv k0
    exact wpAny_pure (fin s2 L es ep t (mv.mono wide) (T.move sk (fun o e => mv.heap S o outw e) fun q hq => sk.ext (key q (List.mem_of_mem_take (g.from_ q hq))) k1) g k1)
  | succ left ih =>
    intro i s em st k0 ⟨L, es, ep, t, T, g⟩ fin
    have lt : i < m := by omega
    refine codeAny_builtin F.entry_set_update_loop ?_
    rw [Around.under_plainId F.plain_set_update_loop _]
    show wpAny _ A.in1 (pyNext (.ref I) >>= _) _ _ s
    refine wpAny_bind (W.item i s _ _ lt st fun v s2 pv st2 mv => ?_)
    obtain ⟨q, hq, rfl⟩ := val i v pv
    have k1 := still mv k0
    have T2 : Stands κ s2.heap S L es ep t := T.move sk (fun o e => mv.heap S o outw e) fun r hr => sk.ext (key r (List.mem_of_mem_take (g.from_ r hr))) k1
    have hx : κ.is s2.heap q.2 q.1 := sk.ext (key q (List.mem_of_getElem? hq)) k1
    have most := g.most
    show wpAny _ A.in1 (holding [Value.ref q.1] (setAdd S (.ref q.1)) >>= _) _ _ s2
    unfold setAdd
    refine wpAny_bind (wpAny_holding (wpAny_holding (wpAny_bind (κ.pyHash hu hx ?_))))
    refine put_key sk (s := { s2 with toks := s2.toks + κ.draws q.2 }) T2 hx hu (by omega) fun b h' L2 es2 ep2 t2 sb T3 c1 c2 => ?_
    have k2 : ∀ b o, h0.get? b = some o → h'.get? b = some o := fun b o e => by
      refine (sb.2 b fun z => ?_).trans (k1 b o e)
      rw [z, new] at e
      cases e
    have nx : St (i + 1) { s2 with heap := h', toks := s2.toks + κ.draws q.2 } := W.frame _ s2 _ _ st2 (Nat.le_add_right _ _) fun b hb o e => by
      rw [sb.2 b fun z => out (by rw [← z]; exact hb)]
      exact e
    refine wpAny_pure ⟨plainId_quiet F.plain_set_update_loop _, ih (i + 1) _ (by omega) nx k2 ⟨L2, es2, ep2, t2, T3, g.next hq c1 c2⟩ fun s3 L3 es3 ep3 t3 mv3 T4 g4 k3 => fin s3 L3 es3 ep3 t3 ?_ T4 g4 k3⟩
    refine Moved.trans W.gtrans ((mv.mono wide).then_heap (Nat.le_add_right _ _) fun b o nb e => ?_) mv3
    rw [sb.2 b fun z => nb (by rw [z]; exact List.mem_cons_self)]
    exact e
/-- set(xs), xs a list of keys -/
theorem made_set (sk : SetKey κ) {l : Addr} {its : Array Value} (ks : List (Addr × α)) {Q : Value → Shared → Prop} (hh : A.handled = none) (hl : s.heap.IsList l its) (hit : its.toList = ks.map fun q => Value.ref q.1) (key : ∀ q ∈ ks, κ.is s.heap q.2 q.1)
    (few : ks.length < 64) (hu : κ.room A.in1.in1.in1)
    (h : ∀ (h' : Heap) (tk : Nat) L es ep t, Stands κ h' s.heap.objs.size L es ep t → Gets ks ks.length L → (∀ b o, s.heap.get? b = some o → h'.get? b = some o) → Q (.ref s.heap.objs.size) { s with heap := h', toks := tk }) :
    wpAny (model P w) A (call (.type "set") [.ref l]) Q E s := by
  have size : its.size = ks.length := by
    rw [← Array.length_toList, hit, List.length_map]
  obtain ⟨c, tl, hmro⟩ := F.called_set.mro
  have made := F.called_set.made
  have sub := F.called_set.sub
  refine wpAny_call (codeAny_of_tree ?_)
  show wpAny _ _ (callAny (.type "set") _) _ _ _
  refine wpAny_pure ⟨Code.quiet_builtin _ (by decide +kernel), codeAny_builtin F.entry_type_call ?_⟩
  rw [Around.under_plain (weight_type_call_type "set" [.ref l] []) rfl]
  have f1 := F.called_set.notType
  have f2 := F.called_set.canCreate
  have f3 := F.typeCall_set_1 (.ref l)
  repeat (any_goals (first | assumption | wp_step))
  refine codeAny_mono (code_set_led1 (.ref l) (E := E) (Q₁ := fun obj s₁ => obj = .ref s.heap.objs.size ∧ s₁ = { s with heap := s.heap.push (bare w) }) ⟨rfl, rfl⟩) fun r s₁ hr => ?_
  cases r with
  | error e => exact hr
  | ok fl =>
    cases fl with
    | ret obj =>
      obtain ⟨rfl, rfl⟩ := hr
      have gS : (s.heap.push (bare w)).get? s.heap.objs.size = some (bare w) := Heap.get?_push_size _ rfl
      have tS : Shared.TypeIs { s with heap := s.heap.push (bare w) } (.ref s.heap.objs.size) "set" := ⟨_, gS, rfl⟩
      have f4 := F.called_set.init.lookup
      have f5 := F.called_set.init.bind (.ref s.heap.objs.size)
      repeat (any_goals (first | assumption | wp_step))
      refine codeAny_mono (codeAny_call_builtin (R := wants (fun r s₂ => r = .none ∧ ∃ h' tk L es ep t, s₂ = { s with heap := h', toks := tk } ∧ Stands κ h' s.heap.objs.size L es ep t ∧ Gets ks ks.length L ∧ ∀ b o, s.heap.get? b = some o → h'.get? b = some o) E)
        F.called_set.init.plain F.entry_set_init (check_set_init_1 tS ?_)) fun r₂ s₂ hr₂ => ?_
      · obtain ⟨ol, hol, hcl, nl, hdl⟩ := hl
        obtain ⟨ocls, odict, odata, oslots⟩ := ol
        dsimp only at hcl hdl
        subst hcl
        subst hdl
        have gl : (s.heap.push (bare w)).get? l = some { cls := .type "list", dict := odict, data := .seq its nl, slots := oslots } := Heap.get?_push_of_some _ hol
        have f6 := F.sub_list_set
        have f7 := F.sub_list_frozenset
        have ne : (Value.type "list" == Value.type "dict") = false := by decide
        have isl : (s.heap.push (bare w)).IsList l its := ⟨_, gl, rfl, nl, rfl⟩
        unfold Builtin.«set.__init__» noKeywords Builtin.Frozenset.updateFrom
        generalize hPI : pyIter = PI
        wp_walk
        subst hPI
        refine wpAny_pyIter_list isl (wpAny_bind (wpAny_runValue ?_))
        have lS : l < s.heap.objs.size := Heap.lt_size hol
        have h3 : A.in1.in1.in1.handled = none := by simp [hh]
        have sz1 : (s.heap.push (bare w)).objs.size = s.heap.objs.size + 1 := Heap.size_push ..
        have neI : l ≠ (s.heap.push (bare w)).objs.size := by
          rw [sz1]
          exact Nat.ne_of_lt (Nat.lt_succ_of_lt lS)
        have nf : s.heap.objs.size ∉ [(s.heap.push (bare w)).objs.size, l] := by
          rw [sz1]
          simp only [List.mem_cons, List.not_mem_nil, or_false, not_or]
          exact ⟨Nat.ne_of_lt (Nat.lt_succ_self _), Nat.ne_of_gt lS⟩
        have val : ∀ (i : Nat) (v : Value), its[i]? = some v → ∃ q, ks[i]? = some q ∧ v = .ref q.1 := fun i v e => by
          rw [← Array.getElem?_toList, hit, List.getElem?_map] at e
          obtain ⟨q, e1, e2⟩ := Option.map_eq_some_iff.mp e
          exact ⟨q, e1, e2.symm⟩
        have beyond : ∀ b, s.heap.objs.size ≤ b → s.heap.get? b = none := fun b hb => by
          match e : s.heap.get? b with
          | none => rfl
          | some o => exact absurd (Nat.lt_of_lt_of_le (Heap.lt_size e) hb) (Nat.lt_irrefl _)
        refine grow sk ((Walks.list h3 _ l neI its).toS) s.heap.objs.size nf ks size few val s.heap key (beyond _ (Nat.le_refl _)) (fun b hb => beyond b ?_) hu its.size 0 _ (by omega)
          ⟨⟨_, Heap.get?_push_size _ rfl, rfl, rfl⟩, (isl.push _)⟩ (fun b o e => Heap.get?_push_of_some _ (Heap.get?_push_of_some _ e)) ⟨[], #[], 0, _, Stands.new (Heap.get?_push_of_some _ gS), ⟨fun q hq => (by cases hq), fun q hq => (by simp at hq), Nat.le_refl _⟩⟩ ?_
        · rw [List.mem_singleton.mp hb, sz1]
          exact Nat.le_succ _
        · intro s3 L es ep t mv T g k
          obtain ⟨h3', g3, d3, tk3, os3⟩ := s3
          have eg : g3 = s.gens := mv.gens
          have ed : d3 = s.drawn := mv.drawn
          have eo : os3 = s.os := mv.os
          subst eg
          subst ed
          subst eo
          show wpAny _ _ _ _ _ _
          refine wpAny_pure ?_
          show wpAny _ _ (ret Value.none) _ _ _
          rw [size] at g
          exact wpAny_pure ⟨rfl, h3', tk3, L, es, ep, t, rfl, T, g, k⟩
      · cases r₂ with
        | error e => exact hr₂
        | ok fl₂ =>
          cases fl₂ with
          | ret r =>
            obtain ⟨rfl, h', tk, L, es, ep, t, rfl, T, g, k⟩ := hr₂
            repeat (any_goals (first | assumption | wp_step))
            exact h _ _ _ _ _ _ T g k
          | _ => exact hr₂.elim
    | _ => exact hr.elim
end
end Ly

namespace Ly
open PySem PySem.Spec PyProof.Rows L2
/-! tuples of texts as keys of a set -/
abbrev TQ (P : Program) (w : World) : HeapKind P w (List Str) := tupleKind (strKind P w)
section
variable {P : Program} {w : World} {A : Around} {E : Value → Shared → Prop} {s : Shared}
theorem only_strs {k : List Str} {vs : List Value} (h : ItemsAre (strKind P w) k vs) : ∀ v ∈ vs, ∃ x t, v = Value.str x t := by
  induction h with
  | nil => exact fun v hv => nomatch hv
  | cons h1 _ ih =>
    intro v hv
    rcases List.mem_cons.mp hv with rfl | m
    · cases v with
      | str x t => exact ⟨x, t, rfl⟩
      | _ => exact absurd h1 (by simp [PySem.strKind, Value.isStrOf])
    · exact ih v m
theorem cls_str (n : Nat) (x : Str) (t : Tok) : ofAClassStatement n (.str x t) = pure false := by
  cases n with
  | zero => rfl
  | succ n => rfl
theorem cls_tq {k : List Str} {b : Addr} {Q : Bool → Shared → Prop} (hk : (TQ P w).is s.heap k b) (h : Q false s) : wpAny (model P w) A (ofAClassStatement 8 (.ref b)) Q E s := by
  have ty : s.TypeIs (.ref b) "tuple" := IsTupleKey.typeIs hk
  obtain ⟨o, its, n, ho, -, hd, hi⟩ := hk
  unfold ofAClassStatement
  refine wpAny_bind (wpAny_typeOf ty ?_)
  dsimp only
  simp only [show (("tuple" : String) == "tuple") = true from by decide, if_true, Bool.not_true, Bool.false_eq_true, if_false]
  try refine wpAny_bind (wpAny_pure ?_)
  try simp only [Bool.not_true, Bool.false_eq_true, if_false]
  show wpAny _ _ (seqItems? (.ref b) >>= _) _ _ s
  refine wpAny_bind (wpAny_seqItems ho hd ?_)
  dsimp only
  refine wpAny_bind ?_
  show wpAny _ _ (forIn its _ _) _ _ s
  rw [← Array.forIn_toList]
  refine wpAny_forIn_list _ (fun more acc now => acc.1 = none ∧ now = s ∧ ∀ v ∈ more, ∃ x t, v = Value.str x t) _ (fun v more acc now ih => ?_) (fun acc now ih => ?_) _ _ ⟨rfl, rfl, only_strs hi⟩
  · obtain ⟨-, rfl, each⟩ := ih
    obtain ⟨x, t, rfl⟩ := each v List.mem_cons_self
    rw [cls_str]
    refine wpAny_bind (wpAny_pure ?_)
    simp only [Bool.false_eq_true, if_false]
    exact wpAny_pure ⟨rfl, rfl, fun u hu => each u (List.mem_cons_of_mem _ hu)⟩
  · obtain ⟨a1, a2⟩ := acc
    obtain ⟨e0, rfl, -⟩ := ih
    dsimp only at e0
    subst e0
    exact wpAny_pure h
theorem byv_tq {k : List Str} {b : Addr} {Q : Bool → Shared → Prop} (hk : (TQ P w).is s.heap k b) (h : ∀ c, Q c s) : wpAny (model P w) A (hashByValue 8 (.ref b)) Q E s := by
  have ty : s.TypeIs (.ref b) "tuple" := IsTupleKey.typeIs hk
  obtain ⟨o, its, n, ho, -, hd, hi⟩ := hk
  unfold hashByValue
  refine wpAny_bind (wpAny_specialOf ty F.slot_tuple_hash.lookup ?_)
  show wpAny _ _ (seqItems? (.ref b) >>= _) _ _ s
  refine wpAny_bind (wpAny_seqItems ho hd (wpAny_bind ?_))
  show wpAny _ _ (forIn its _ _) _ _ s
  rw [← Array.forIn_toList]
  refine wpAny_forIn_list _ (fun more acc now => acc.1 = none ∧ now = s ∧ ∀ v ∈ more, ∃ x t, v = Value.str x t) _ (fun v more acc now ih => ?_) (fun acc now ih => ?_) _ _ ⟨rfl, rfl, only_strs hi⟩
  · obtain ⟨-, rfl, each⟩ := ih
    obtain ⟨x, t, rfl⟩ := each v List.mem_cons_self
    have e : hashByValue 7 (.str x t) = pure false := by
      unfold hashByValue
      rfl
    rw [e]
    refine wpAny_bind (wpAny_pure ?_)
    simp only [Bool.not_false, if_true]
    exact wpAny_pure (wpAny_pure (h false))
  · obtain ⟨a1, a2⟩ := acc
    obtain ⟨e0, rfl, -⟩ := ih
    dsimp only at e0
    subst e0
    exact wpAny_pure (h true)
theorem setKey_tq : SetKey (TQ P w) where
  cls := cls_tq
  byv := byv_tq
  but := fun {h h' k b a o es ep t} hk ho hd sb => by
    obtain ⟨o2, its, n, ho2, hc, hd2, hi⟩ := hk
    refine ⟨o2, its, n, (sb.2 b fun z => ?_).trans ho2, hc, hd2, hi⟩
    rw [z, ho] at ho2
    rw [← Option.some.inj ho2, hd] at hd2
    cases hd2
  ext := fun {h h' k b} hk same => by
    obtain ⟨o2, its, n, ho2, r⟩ := hk
    exact ⟨o2, its, n, same b o2 ho2, r⟩
/-- the set at a, its tuples aside -/
def SetB (P : Program) (w : World) (h : Heap) (a : Addr) (L : List (Addr × List Str)) : Prop :=
  ∃ (es : Array (Int × Value)) (ep : Nat) (t : SetTable), (∃ o, h.get? a = some o ∧ o.ExactSet ∧ o.data = .set es ep t) ∧ es.toList = rws (TQ P w) L ∧ TabOk t (hsh (TQ P w) L) ∧ (L.map (·.2)).Nodup ∧
    (w.params.followText "set-order" = true ∨ t.led = true) ∧ L.length * 5 < t.mask * 3 ∧ L.length < 64
def SetQ (P : Program) (w : World) (a : Addr) (L : List (Addr × List Str)) : HO := .ext fun h => SetB P w h a L
theorem SetB.stands {h : Heap} {a : Addr} {L : List (Addr × List Str)} (R : SetB P w h a L) (hk : ∀ q ∈ L, (TQ P w).is h q.2 q.1) : ∃ es ep t, Stands (TQ P w) h a L es ep t := by
  obtain ⟨es, ep, t, r1, r2, r3, r4, r5, r6, r7⟩ := R
  exact ⟨es, ep, t, r1, r2, r3, r4, hk, r5, r6, r7⟩
theorem Stands.b {h : Heap} {a : Addr} {L : List (Addr × List Str)} {es : Array (Int × Value)} {ep : Nat} {t : SetTable} (R : Stands (TQ P w) h a L es ep t) : SetB P w h a L :=
  ⟨es, ep, t, R.obj, R.row, R.ok, R.once, R.led, R.air, R.few⟩
theorem setQ_ok {H : Hp} {h : Heap} {a : Addr} {L : List (Addr × List Str)} (R : SetB P w h a L) : ObjOk P w H h a (SetQ P w a L) := by
  refine ⟨R, ?_, fun h1 h2 p k => ?_⟩
  · obtain ⟨_, _, _, ⟨o, ho, _⟩, _⟩ := R
    exact ⟨o, ho⟩
  · have ⟨es, ep, t, ⟨o, ho, r⟩, q⟩ := (show SetB P w h1 a L from p)
    exact ⟨es, ep, t, ⟨o, k o ho, r⟩, q⟩
theorem strs_are : ∀ {k : List Str} {us : List Value}, Vals (k.map V.str) us → ItemsAre (strKind P w) k us
  | [], _, .nil => .nil
  | x :: k, _, .cons r t => by
    obtain ⟨tk, rfl⟩ := r
    exact .cons (strKind_is P w x tk) (strs_are t)
theorem refs_are {β : Type} : ∀ {ks : List (Addr × β)} {us : List Value}, Vals (ks.map fun q => V.ref q.1) us → us = ks.map fun q => Value.ref q.1
  | [], _, .nil => rfl
  | q :: ks, _, .cons r t => by
    cases r
    rw [refs_are t]
    rfl
theorem vals_are {β : Type} : ∀ (ks : List (Addr × β)), Vals (ks.map fun q => V.ref q.1) (ks.map fun q => Value.ref q.1)
  | [] => .nil
  | _ :: ks => .cons rfl (vals_are ks)
end
section
variable {X : Cx}
theorem key_tq {pins : List (Addr × Obj)} {σ : L2.St} {H : Hp} {s : Shared} {b : Addr} {k : List Str} (I : Inv X pins σ H s) (h : SqT X.K H b (k.map V.str)) : (TQ X.prog X.w).is s.heap k b := by
  obtain ⟨its, r, ⟨o, ho, hc, n, hd⟩, _⟩ := I.tuple h
  exact ⟨o, its.toArray, n, ho, hc, hd, by simpa using strs_are r⟩
/-- the list at l has the tuples of texts ks -/
def Tups (K : PySem.W.Frag) (H : Hp) (ks : List (Addr × List Str)) : Prop := ∀ q ∈ ks, SqT K H q.1 (q.2.map V.str)
def refsOf {β : Type} (ks : List (Addr × β)) : List V := ks.map fun q => V.ref q.1
/-- set(xs), xs a list of tuples of texts -/
def rSetQ (K : PySem.W.Frag) (P : Program) (w : World) : List V → Hp → VK → Prop := fun xs H Q => ∃ (l : Addr) (ks : List (Addr × List Str)), xs = [V.ref l] ∧ SqL K H l (refsOf ks) ∧ Tups K H ks ∧ ks.length < 64 ∧
  ∀ a L, H a = none → (∀ q ∈ L, q ∈ ks) → (∀ q ∈ ks, q.2 ∈ L.map (·.2)) → (L.map (·.2)).Nodup → L.length ≤ ks.length → Q (.ref a) (upd H a (SetQ P w a L))
theorem call_setQ (hc : X.calm = true) (hu : X.A.units + 64 < cLine) : CallR X (.type "set") (rSetQ X.K X.prog X.w) := by
  intro pins s σ H xs us Q I r h
  obtain ⟨l, ks, rfl, hl, hk, few, q⟩ := h
  rw [Vals.ref1 r]
  obtain ⟨its, rv, pl, hz⟩ := I.list hl
  refine made_set (κ := TQ X.prog X.w) setKey_tq ks (I.ok.hd hc) pl.isList (by simpa using refs_are rv) (fun p hp => key_tq I (hk p hp)) few (by show X.A.units + 1 + 1 + 1 < cLine; omega) fun h' tk L es ep t R g k => ?_
  refine ⟨.ref s.heap.objs.size, upd H s.heap.objs.size (SetQ X.prog X.w s.heap.objs.size L), I.laid (t' := tk) k (Nat.le_refl _) (setQ_ok R.b), rfl, q _ L (I.hok.fresh (Nat.le_refl _)) (fun p hp => List.mem_of_mem_take (g.from_ p hp)) (fun p hp => g.each p ?_) R.once g.most⟩
  rw [List.take_length]
  exact hp
/-! sorted lists of tuples of texts -/
def encT (q : Addr × List Str) : PyData := .tuple (q.2.map .str)
def leT : Addr × List Str → Addr × List Str → Bool := PySem.W.dataLe false encT
theorem alike_strs : ∀ xs ys : List Str, PySem.W.alikeAll (xs.map PyData.str) (ys.map PyData.str) = true
  | [], _ => by simp [PySem.W.alikeAll]
  | _ :: _, [] => by simp [PySem.W.alikeAll]
  | x :: xs, y :: ys => by
    show PySem.W.alikeAll (.str x :: xs.map PyData.str) (.str y :: ys.map PyData.str) = true
    rw [PySem.W.alikeAll, alike_strs xs ys]
    simp [PySem.W.alike]
theorem alike_encT (bs : List (Addr × List Str)) : PySem.W.AllAlike (bs.map encT) := PySem.W.AllAlike.of fun p q => by
  unfold encT
  rw [PySem.W.alike]
  exact alike_strs _ _
theorem sortable_encT {bs : List (Addr × List Str)} (h : ∀ q ∈ bs, q.2 ≠ []) : PySem.W.Sortable (bs.map encT) := .inl fun d hd => by
  obtain ⟨q, hq, rfl⟩ := List.mem_map.mp hd
  match e : q.2 with
  | [] => exact absurd e (h q hq)
  | x :: r => exact ⟨.str x, r.map .str, by unfold encT; rw [e]; rfl⟩
theorem depth_strs : ∀ xs : List Str, PyData.depthAll (xs.map .str) = 0
  | [] => by simp [PyData.depthAll]
  | x :: xs => by
    show PyData.depthAll (.str x :: xs.map .str) = 0
    rw [PyData.depthAll, depth_strs xs]
    simp [PyData.depth]
theorem depth_encT (q : Addr × List Str) : (encT q).depth = 1 := by
  unfold encT
  rw [PyData.depth, depth_strs]
theorem reads_strs {h : Heap} : ∀ {k : List Str} {us : List Value}, Vals (k.map V.str) us → ReadsAll h us (k.map .str) []
  | [], _, .nil => .nil
  | x :: k, _, .cons r t => by
    obtain ⟨tk, rfl⟩ := r
    exact ReadsAll.cons (Reads.str x tk) (reads_strs t)
theorem reads_tq {pins : List (Addr × Obj)} {σ : L2.St} {H : Hp} {s : Shared} {q : Addr × List Str} (I : Inv X pins σ H s) (h : SqT X.K H q.1 (q.2.map V.str)) : Reads s.heap (.ref q.1) (encT q) [] := by
  obtain ⟨its, r, ⟨o, ho, hc, n, hd⟩, _⟩ := I.tuple h
  exact Reads.tuple ho hc hd (by simpa using reads_strs r)
theorem each_refs {R : Value → Addr × List Str → Prop} : ∀ {bs : List (Addr × List Str)}, (∀ q ∈ bs, R (.ref q.1) q) → PySem.W.EachIs R (bs.map fun q => Value.ref q.1) bs
  | [], _ => .nil
  | q :: bs, h => .cons (h q List.mem_cons_self) (each_refs fun r hr => h r (List.mem_cons_of_mem _ hr))
theorem refs_each {bs : List (Addr × List Str)} : ∀ {out : List Value}, PySem.W.EachIs (fun v (q : Addr × List Str) => v = Value.ref q.1) out bs → out = bs.map fun q => Value.ref q.1 := by
  induction bs with
  | nil =>
    intro out h
    cases h
    rfl
  | cons q bs ih =>
    intro out h
    cases h with
    | cons h1 h2 => rw [h1, ih h2, List.map_cons]
theorem perm_back {β γ : Type} {f : β → γ} {l l' : List γ} (h : l.Perm l') : ∀ L : List β, l = L.map f → ∃ L1 : List β, l' = L1.map f ∧ L1.Perm L := by
  induction h with
  | nil =>
    intro L e
    exact ⟨[], rfl, by
      cases L with
      | nil => exact .nil
      | cons q L => cases e⟩
  | cons x _ ih =>
    intro L e
    cases L with
    | nil => cases e
    | cons q L =>
      rw [List.map_cons] at e
      injection e with e1 e2
      obtain ⟨L1, e3, p⟩ := ih L e2
      exact ⟨q :: L1, by rw [List.map_cons, e1, e3], p.cons q⟩
  | swap x y l =>
    intro L e
    match L, e with
    | q :: r :: L, e =>
      rw [List.map_cons, List.map_cons] at e
      injection e with e1 e2
      injection e2 with e2 e3
      exact ⟨r :: q :: L, by rw [List.map_cons, List.map_cons, e1, e2, e3], .swap q r L⟩
  | trans _ _ ih1 ih2 =>
    intro L e
    obtain ⟨L1, e1, p1⟩ := ih1 L e
    obtain ⟨L2, e2, p2⟩ := ih2 L1 e1
    exact ⟨L2, e2, p2.trans p1⟩
/-- sorted(xs), xs a list of tuples of texts, none of them empty -/
def rSortT (K : PySem.W.Frag) : List V → Hp → VK → Prop := fun vs H Q => ∃ (a : Addr) (ks : List (Addr × List Str)), vs = [V.ref a] ∧ SqL K H a (refsOf ks) ∧ Tups K H ks ∧ (∀ q ∈ ks, q.2 ≠ []) ∧
  ∀ p, H p = none → Q (.ref p) (upd H p (.lst (refsOf (ks.mergeSort leT))))
theorem call_sortT (hu : X.A.units + 64 < cLine) : CallR X (.builtin "sorted") (rSortT X.K) := by
  intro pins s σ H vs us Q I r h
  obtain ⟨a, ks, rfl, hl, hk, ne, q⟩ := h
  rw [Vals.ref1 r]
  obtain ⟨its, rv, pl, hz⟩ := I.list hl
  have ei := refs_are rv
  subst ei
  have hz' : ks.length ≤ sizeLine := by
    unfold refsOf at hz
    rw [List.length_map] at hz
    exact hz
  refine PySem.W.sorted_data (vs := ks.map fun q => Value.ref q.1) (bs := ks) (enc := encT) (R := fun v q => v = Value.ref q.1) pl.isList (each_refs fun _ _ => rfl) (each_refs fun p hp => ⟨[], reads_tq I (hk p hp)⟩) (alike_encT ks) (sortable_encT ne) hz'
    (fun p _ => by rw [depth_encT]; omega) fun out ho ee => ?_
  have eo := refs_each ee
  subst eo
  obtain ⟨ep, he⟩ := PyProof.Rows.sortedAll_at s.heap (ks.map fun q => Value.ref q.1) ((ks.mergeSort leT).map fun q => Value.ref q.1).toArray
  have len : (refsOf (ks.mergeSort leT)).length ≤ sizeLine := by
    unfold refsOf
    rw [List.length_map, List.length_mergeSort]
    exact hz'
  exact ⟨.ref _, upd H (s.heap.objs.size + 1) (.lst (refsOf (ks.mergeSort leT))), I.laid (t' := s.toks) (fun _ _ => PyProof.Rows.sortedAll_old) (Nat.le_succ _) ⟨len, _, ep, vals_are _, he⟩, rfl, q _ (I.hok.fresh (Nat.le_succ _))⟩
/-- sorted(a set of tuples of texts) -/
def rSortQ (K : PySem.W.Frag) (P : Program) (w : World) : List V → Hp → VK → Prop := fun vs H Q => ∃ (a : Addr) (L : List (Addr × List Str)), vs = [V.ref a] ∧ H a = some (SetQ P w a L) ∧ Tups K H L ∧ (∀ q ∈ L, q.2 ≠ []) ∧
  ∀ (L' : List (Addr × List Str)) (p : Addr), L'.Perm L → H p = none → Q (.ref p) (upd H p (.lst (refsOf (L'.mergeSort leT))))
theorem call_sortQ (hc : X.calm = true) (hu : X.A.units + 64 < cLine) : CallR X (.builtin "sorted") (rSortQ X.K X.prog X.w) := by
  intro pins s σ H vs us Q I r h
  obtain ⟨a, L, rfl, ha, hk, ne, q⟩ := h
  rw [Vals.ref1 r]
  have R0 : SetB X.prog X.w s.heap a L := (I.hok a _ ha).1
  obtain ⟨es, ep, t, R⟩ := R0.stands fun p hp => key_tq I (hk p hp)
  obtain ⟨o, ho, hex, hd⟩ := R.obj
  have len := rws_len R.row
  have few := R.few
  refine Calls.call_function_entry kind_sorted plain_sorted entry_sorted (args_sorted1 _) ?_
  unfold Builtin.«sorted»
  refine wpAny_bind (m := checkCount "sorted" 1 1 _) (wpAny_pure ?_)
  refine wpAny_bind (collect_set (A := X.A.in1) (I.ok.hd hc) ⟨o, ho, hex.1, hd⟩ R.fits (by unfold scanBound; omega) R.ok.ris R.led fun s1 vs k1 hz g1 o1 pm => ?_)
  have es2 : es.toList.map (·.2) = L.map fun q => Value.ref q.1 := by
    rw [R.row, rws, List.map_map]
    rfl
  rw [es2] at pm
  -- the values in the order that they come in
  obtain ⟨L1, e1, p1⟩ := perm_back pm.symm L rfl
  subst e1
  have lenL : L1.length = L.length := p1.length_eq
  refine wpAny_bind (wpAny_newList ?_ (by rw [List.length_map, sizeLine_eq]; omega))
  have hoL : (s1.heap.push (seqObj "list" (L1.map fun q => Value.ref q.1).toArray 0)).get? s1.heap.objs.size = some (seqObj "list" (L1.map fun q => Value.ref q.1).toArray 0) := Heap.get?_push_size _ rfl
  have rd : ∀ q ∈ L1, Reads (s1.heap.push (seqObj "list" (L1.map fun q => Value.ref q.1).toArray 0)) (.ref q.1) (encT q) [] := fun q hq =>
    PyProof.Rows.Reads.keeps (fun b u e => Heap.get?_push_of_some _ (k1 b u e)) (reads_tq I (hk q (p1.mem_iff.mp hq)))
  refine wpAny_bind (wpAny_holding (PySem.W.list_sort_data (s := { s1 with heap := s1.heap.push (seqObj "list" (L1.map fun q => Value.ref q.1).toArray 0) }) (vs := L1.map fun q => Value.ref q.1) (bs := L1) (enc := encT) (R := fun v q => v = Value.ref q.1) hoL
    (each_refs fun _ _ => rfl) (each_refs fun q hq => ⟨[], rd q hq, (by simp)⟩) (alike_encT L1) (sortable_encT fun q hq => ne q (p1.mem_iff.mp hq)) (by rw [lenL, sizeLine_eq]; omega) (fun p _ => by rw [depth_encT]; show X.A.units + 1 + 1 + 1 < cLine; omega) fun out ho2 ee => ?_))
  have eo := refs_each ee
  subst eo
  obtain ⟨c, hcL⟩ := sortedHeap_at (vs := L1.map fun q => Value.ref q.1) (out := ((L1.mergeSort leT).map fun q => Value.ref q.1).toArray) hoL
  have k2 : ∀ b u, s.heap.get? b = some u → (sortedHeap (s1.heap.push (seqObj "list" (L1.map fun q => Value.ref q.1).toArray 0)) s1.heap.objs.size (L1.map fun q => Value.ref q.1) ((L1.mergeSort leT).map fun q => Value.ref q.1).toArray).get? b = some u := fun b u e => by
    have e2 := k1 b u e
    have lt := Heap.lt_size e2
    rw [sortedHeap_old (Nat.ne_of_lt lt) (by rw [size_push']; exact Nat.lt_succ_of_lt lt)]
    exact Heap.get?_push_of_some _ e2
  have hn : H s1.heap.objs.size = none := I.hok.fresh hz
  have lenS : (refsOf (L1.mergeSort leT)).length ≤ sizeLine := by
    unfold refsOf
    rw [List.length_map, List.length_mergeSort, lenL, sizeLine_eq]
    omega
  refine wpAny_pure ⟨_, rfl, .ref s1.heap.objs.size, upd H s1.heap.objs.size (.lst (refsOf (L1.mergeSort leT))), I.call' (ch := []) o1 (Un.laid k2 hz hn) (I.hok.laid k2 hz ⟨lenS, _, c, vals_are _, hcL⟩) (by
    show AllBare s1.gens
    rw [g1]
    exact I.bare) (fun _ z => nomatch z), rfl, q L1 _ p1 hn⟩
end
end Ly

namespace Ly
open PySem PySem.Spec PyProof.Rows L2
/-! enumerate(a tuple) -/
theorem new_enum {v : Value} {o : Obj} {Hh : Heap → Prop} (B : Begins v o Hh) :
    Meets (Builtin.«enumerate.__new__» ⟨[.type "enumerate", v], []⟩) (fun _ R s => Hh s.heap ∧
      R (.ok (.ret (.ref (s.heap.push o).objs.size))) { s with heap := (s.heap.push o).push { cls := .type "enumerate", data := .fields #[.none, .bool false, .ref s.heap.objs.size, rawInt 0, .none, .none] } }) :=
  .of_wp fun prog w A R s h => by
    obtain ⟨hp, g, d, tk, os⟩ := s
    obtain ⟨h1, h2⟩ := h
    have sub := sub_enumerate
    have it : ∀ {A2 : Around} {E : Value → Shared → Prop} {Q : Value → Shared → Prop}, Q (.ref hp.objs.size) ⟨hp.push o, g, d, tk, os⟩ → wpAny (model prog w) A2 (pyIter v) Q E ⟨hp, g, d, tk, os⟩ := fun q => B.iter prog w _ _ ⟨hp, g, d, tk, os⟩ _ h1 q
    wp_walk using it
    refine wpAny_stack_any fun _ => wpAny_pure ?_
    split
    · rename_i c _ _ _ _ _
      cases c == Value.type "enumerate"
      all_goals
        wp_walk using it
        exact ⟨_, rfl, h2⟩
    · wp_walk using it
      exact ⟨_, rfl, h2⟩
theorem call_enum {prog : Program} {w : World} {A : Around} {E : Value → Shared → Prop} {s : Shared} {v : Value} {o : Obj} {Hh : Heap → Prop} {Q : Value → Shared → Prop} (B : Begins v o Hh) (h1 : Hh s.heap)
    (h : ∀ h', IsEnum h' (s.heap.objs.size + 1) s.heap.objs.size 0 .none → h'.get? s.heap.objs.size = some o → (∀ b u, s.heap.get? b = some u → h'.get? b = some u) → Q (.ref (s.heap.objs.size + 1)) { s with heap := h' }) :
    wpAny (model prog w) A (call (.type "enumerate") [v]) Q E s := by
  refine callType_new F.called_enumerate (by decide) (F.typeCall_enumerate_1 _) (F.newCall_enumerate_1 _) (fun obj => F.args_object_init_2 obj _) F.entry_enumerate_new (new_enum B) ⟨h1, ?_⟩
  have z : (s.heap.push o).objs.size = s.heap.objs.size + 1 := Heap.size_push ..
  have e := Heap.get?_push_size (s.heap.push o) (o := { cls := .type "enumerate", data := .fields #[.none, .bool false, .ref s.heap.objs.size, rawInt 0, .none, .none] }) rfl
  rw [z] at e
  show _ ∧ _
  rw [z]
  exact ⟨⟨_, e, rfl⟩, h _ e (Heap.get?_push_of_some _ (Heap.get?_push_size _ B.free)) fun b u x => Heap.get?_push_of_some _ (Heap.get?_push_of_some _ x)⟩
/-- the items of the tuple at a, each in a new pair with its number -/
def IteT (K : PySem.W.Frag) (a : Addr) : It :=
  ⟨fun i H => ∃ (xs : List V) (x : V), SqT K H a xs ∧ xs[i]? = some x, fun i H v H' => ∃ T x, v = .ref T ∧ H T = none ∧ H' = upd H T (.tup [.int (i : Nat), x]) ∧ ∀ xs, SqT K H a xs → xs[i]? = some x, fun i H => ∃ xs : List V, SqT K H a xs ∧ xs.length ≤ i⟩
theorem turn_enumT {P : Program} {w : World} {K : PySem.W.Frag} {elts : List Expr} {kk : Nat} {tpos : Pos} (a e it : Addr) :
    Turn P w K (.Tuple elts kk tpos) (IteT K a) [e, it] e (fun i h => (∃ old, IsEnum h e it ((i : Nat) : Int) old) ∧ h.IsTupleIter it a i ∧ e ≠ it) where
  mem := by simp
  obj := fun i h st b hb => by
    obtain ⟨⟨old, he⟩, ⟨o, ho, hc, hd⟩, _⟩ := st
    simp only [List.mem_cons, List.not_mem_nil, or_false] at hb
    rcases hb with rfl | rfl
    · exact ⟨_, he, fun v q => nomatch q⟩
    · exact ⟨o, ho, fun v q => by
        rw [hd] at q
        cases q⟩
  keep := fun i h h' st k => by
    obtain ⟨⟨old, he⟩, hi, ne⟩ := st
    exact ⟨⟨old, k e (by simp) _ he⟩, hi.at fun o q => k it (by simp) o q, ne⟩
  item := by
    intro X hP hw hK hc i pins s σ H E I hf st hg
    subst hP hw hK
    obtain ⟨⟨old, he⟩, hit, ne⟩ := st
    obtain ⟨xs, x, hq, hx⟩ := hg
    obtain ⟨its, rv, p, hz⟩ := I.tuple hq
    obtain ⟨u, hu, ru⟩ := rv.get hx
    have le : e < s.heap.objs.size := Heap.lt_size he
    have li : it < s.heap.objs.size := by
      obtain ⟨_, q, _⟩ := hit
      exact Heap.lt_size q
    have nit : a ≠ it := by
      rintro rfl
      obtain ⟨o1, e1, c1, _⟩ := p
      obtain ⟨o2, e2, c2, _⟩ := hit
      rw [e1] at e2
      rw [← Option.some.inj e2, c1] at c2
      exact absurd c2 (by decide)
    have ne2 : e ∉ [it, a] := by
      simp only [List.mem_cons, List.not_mem_nil, or_false, not_or]
      refine ⟨ne, ?_⟩
      rintro rfl
      obtain ⟨o1, e1, c1, _⟩ := p
      have he' : s.heap.get? e = _ := he
      rw [e1] at he'
      rw [Option.some.inj he'] at c1
      have c2 : Value.type "enumerate" = Value.type "tuple" := c1
      exact absurd c2 (by decide)
    have lt : i < its.toArray.size := by
      have := (List.getElem?_eq_some_iff.mp hu).1
      simpa using this
    refine wpAny_pyNext_enum_itemD (Draws.tuple (A := X.A.in1) (I.ok.hd hc) it a nit its.toArray) he ⟨hit, p⟩ lt ne ne2 fun y h' tk py ho hit' hT hsz hk => ?_
    have ey : y = u := by
      have e1 : its.toArray[i]? = some u := by simpa using hu
      rw [e1] at py
      exact (Option.some.inj py).symm
    subst ey
    refine ⟨_, rfl, wpAny_letOwnedTupleGo_enum (s := { s with heap := h', toks := tk + 1 }) ho fun h2 he2 sb => ?_⟩
    have hT2 : h2.get? s.heap.objs.size = some { cls := .type "tuple", data := .seq #[.int i tk, y] } := (sb.2 _ (Nat.ne_of_gt le)).trans hT
    have new : ObjOk X.prog X.w (upd H s.heap.objs.size (.tup [.int (i : Nat), x])) h2 s.heap.objs.size (.tup [.int (i : Nat), x]) :=
      ⟨by show 2 ≤ sizeLine; decide, [.int i tk, y], .cons ⟨_, rfl⟩ (.cons ru .nil), ⟨_, hT2, rfl, _, rfl⟩⟩
    have I1 : Inv X pins σ (upd H s.heap.objs.size (.tup [.int (i : Nat), x])) { s with heap := h2, toks := tk + 1 } :=
      I.turnedNew (ch := [e, it]) (fun b ob hb q => (sb.2 b (fun z => hb (by simp [z]))).trans (hk b ob (fun z => hb (by simp [z])) (fun z => hb (by simp [z])) q)) hf (Nat.le_refl _) new
    refine ⟨.ref s.heap.objs.size, _, I1, rfl, ⟨_, x, rfl, I.hok.fresh (Nat.le_refl _), rfl, fun ys hy => ?_⟩, ⟨⟨y, ?_⟩, hit'.1.at fun o q => (sb.2 it (Ne.symm ne)).trans q, ne⟩, fun b hb => ?_⟩
    · rw [I.tuple_inj hy hq]
      exact hx
    · have e1 : ((i + 1 : Nat) : Int) = (i : Int) + 1 := by omega
      rw [e1]
      exact he2
    · have lb : b < s.heap.objs.size := by
        simp only [List.mem_cons, List.not_mem_nil, or_false] at hb
        rcases hb with rfl | rfl
        · exact le
        · exact li
      rw [upd_ne (Nat.ne_of_lt lb)]
      exact (hf b hb).1
  done := by
    intro X hP hw hK hc i pins s σ H E I hf st hg
    subst hP hw hK
    obtain ⟨⟨old, he⟩, hit, ne⟩ := st
    obtain ⟨xs, hq, hx⟩ := hg
    obtain ⟨its, rv, p, hz⟩ := I.tuple hq
    obtain ⟨f0, f1, f2, f3, f4, f5⟩ := hf it (by simp)
    have hl := rv.length
    have tT : s.TypeIs (.ref e) "enumerate" := ⟨_, he, rfl⟩
    unfold pyNext
    refine wpAny_bind (wpAny_attempt (wpAny_callSpecial?_slot (name := Str.ofString "__next__") tT F.slot_enumerate_next (wpAny_call_entry F.slot_enumerate_next tT F.entry_enumerate_next ?_ (F.args_enumerate_next_1 _))))
    show wpAny _ _ (field (.ref e) 2 >>= _) _ _ _
    refine wpAny_bind (wpAny_field he rfl (x := .ref it) rfl (wpAny_bind (wpAny_nextOf_tuple_end (A := X.A.in1) (I.ok.hd hc) hit p (by simp; omega) fun h' x eb hx' => ?_)))
    obtain ⟨o, ho, hc'⟩ := hx'
    refine wpAny_bind (wpAny_isInstance (T := "StopIteration") (b := true) ⟨o, ho, hc'⟩ isSubtype_stop ?_)
    exact wpAny_pure ⟨rfl, I.turned (t' := s.toks) (fun b o hb q => eb b o hb q) f0 f1 f3 f4 f5⟩
  self := fun A i s Q E st h => let ⟨⟨_, he⟩, _⟩ := st; wpAny_pyIter_enum he h
theorem walk_enumT {K : PySem.W.Frag} {a : Addr} {xs : List V} : Walk (IteT K a) xs.length (fun H => SqT K H a xs) (YPair (fun i => some (.int (i : Nat))) (fun i => xs[i]?)) :=
  ⟨fun i _ hi q => ⟨xs, xs[i], q, by simp [hi]⟩, fun _ q => ⟨xs, q, Nat.le_refl _⟩, fun _ _ _ _ _ q ⟨T, x, e1, e2, e3, e4⟩ => ⟨T, _, x, e1, e2, e3, rfl, e4 xs q⟩⟩
def iEnumT (K : PySem.W.Frag) (ta : TA) : TI := fun σ H R => ta σ H fun vs H1 => ∃ a xs, vs = [.ref a] ∧ SqT K H1 a xs ∧ R (IteT K a) H1
theorem pi_enumT {X : Cx} {e : Expr} {ta : TA} {p pos tpos : Pos} {elts : List Expr} {kk : Nat} (hg : Gl X "enumerate") (hm : X.mg "enumerate" = none) (ha : PA X [e] ta) (hs : starEach [e] X.env = [(false, eval e X.env)] := by rfl) :
    PI X (.Tuple elts kk tpos) (.Call (.Name "enumerate" p) [e] [] pos) (iEnumT X.K ta) := by
  refine ⟨fun pins s σ H R I h => Call_ (ld_blt I hg hm boot_enumerate (PyProof.Rows.callWith_type1 (thn (ha.run pos pins s σ H _ I h) fun us s1 ⟨vs, H1, I1, r1, q1⟩ => ?_) hs rfl))⟩
  obtain ⟨a, xs, rfl, hq, q⟩ := q1
  rw [Vals.ref1 r1]
  obtain ⟨its, rv, pt, hz⟩ := I1.tuple hq
  refine call_enum (begins_tuple a its.toArray) pt fun h' he hit hk => wpAny_pyIter_enum he ⟨s1.heap.objs.size + 1, [s1.heap.objs.size + 1, s1.heap.objs.size], _, _, H1, rfl, I1.kept (t' := s1.toks) hk, turn_enumT a _ _, ⟨⟨.none, he⟩, ⟨_, hit, rfl, rfl⟩, Nat.succ_ne_self _⟩, fun b hb => ?_, q⟩
  have le : s1.heap.objs.size ≤ b := by
    simp only [List.mem_cons, List.not_mem_nil, or_false] at hb
    rcases hb with rfl | rfl
    · exact Nat.le_add_right _ _
    · exact Nat.le_refl _
  exact I1.fpOk le (I1.hok.fresh le)
end Ly

namespace Ly
open PySem PySem.Spec PyProof.Rows L2
/-! data, taken apart -/
section
variable {K : PySem.W.Frag} {H : Hp} {v : V}
theorem Dq.tup_of {ds : List PyData} (h : Dq K H v (.tuple ds)) : ∃ a xs, v = .ref a ∧ SqT K H a xs ∧ DqA K H xs ds := by
  cases h with
  | tup h1 h2 => exact ⟨_, _, rfl, h1, h2⟩
theorem Dq.lst_of {ds : List PyData} (h : Dq K H v (.list ds)) : ∃ a xs, v = .ref a ∧ SqL K H a xs ∧ DqA K H xs ds := by
  cases h with
  | lst h1 h2 => exact ⟨_, _, rfl, h1, h2⟩
theorem Dq.str_of {x : Str} (h : Dq K H v (.str x)) : v = .str x := by
  cases h
  rfl
theorem Dq.int_of {i : Int} (h : Dq K H v (.int i)) : v = .int i := by
  cases h
  rfl
theorem Dq.bl_of {b : Bool} (h : Dq K H v (.bool b)) : v = .bl b := by
  cases h
  rfl
theorem DqA.nil_of {vs : List V} (h : DqA K H vs []) : vs = [] := by
  cases h
  rfl
theorem DqA.cons_of {vs : List V} {d : PyData} {ds : List PyData} (h : DqA K H vs (d :: ds)) : ∃ v ws, vs = v :: ws ∧ Dq K H v d ∧ DqA K H ws ds := by
  cases h with
  | cons h1 h2 => exact ⟨_, _, rfl, h1, h2⟩
theorem DqA.at_ : ∀ {vs : List V} {ds : List PyData}, DqA K H vs ds → ∀ {i : Nat} {v : V}, vs[i]? = some v → ∃ d, ds[i]? = some d ∧ Dq K H v d
  | _, _, .nil, _, _, h => nomatch h
  | _, _, .cons h1 h2, 0, v, h => by
    simp only [List.getElem?_cons_zero, Option.some.injEq] at h
    subst h
    exact ⟨_, rfl, h1⟩
  | _, _, .cons h1 h2, i + 1, v, h => by
    simp only [List.getElem?_cons_succ] at h ⊢
    exact DqA.at_ h2 h
theorem DqA.strs : ∀ {vs : List V} {ss : List Str}, DqA K H vs (ss.map .str) → vs = ss.map .str
  | _, [], h => h.nil_of
  | _, x :: ss, h => by
    obtain ⟨v, ws, rfl, h1, h2⟩ := DqA.cons_of (d := .str x) (ds := ss.map .str) h
    rw [h1.str_of, DqA.strs h2]
    rfl
theorem dqa_strs : ∀ (ss : List Str), DqA K H (ss.map .str) (ss.map .str)
  | [] => .nil
  | x :: ss => .cons (.str x) (dqa_strs ss)
/-- a row of texts -/
def rowD (r : List Str) : PyData := .tuple (r.map .str)
theorem row_of {r : List Str} (h : Dq K H v (rowD r)) : ∃ a, v = .ref a ∧ SqT K H a (r.map .str) := by
  obtain ⟨a, xs, rfl, h1, h2⟩ := h.tup_of
  rw [h2.strs] at h1
  exact ⟨a, rfl, h1⟩
theorem row_is {a : Addr} {r : List Str} (h : SqT K H a (r.map .str)) : Dq K H (.ref a) (rowD r) := .tup h (dqa_strs r)
/-- the rows of a list of addresses -/
theorem rows_of : ∀ {vs : List V} {rs : List (List Str)}, DqA K H vs (rs.map rowD) → ∃ ks : List (Addr × List Str), vs = refsOf ks ∧ Tups K H ks ∧ ks.map (·.2) = rs
  | _, [], h => ⟨[], h.nil_of, fun _ z => (by cases z), rfl⟩
  | _, r :: rs, h => by
    obtain ⟨v, ws, rfl, h1, h2⟩ := DqA.cons_of (d := rowD r) (ds := rs.map rowD) h
    obtain ⟨a, rfl, ha⟩ := row_of h1
    obtain ⟨ks, rfl, hk, rfl⟩ := rows_of h2
    refine ⟨(a, r) :: ks, rfl, fun q hq => ?_, rfl⟩
    rcases List.mem_cons.mp hq with rfl | m
    · exact ha
    · exact hk q m
theorem rows_is : ∀ {ks : List (Addr × List Str)}, Tups K H ks → DqA K H (refsOf ks) ((ks.map (·.2)).map rowD)
  | [], _ => .nil
  | q :: ks, h => .cons (row_is (h q List.mem_cons_self)) (rows_is fun r m => h r (List.mem_cons_of_mem _ m))
/-! for == : data without dicts -/
mutual
theorem Dq.dp : ∀ {v : V} {d : PyData}, Dq K H v d → d.canLay0 = true → Dp K H v d
  | _, _, .non, _ => .non
  | _, _, .bl b, _ => .bl b
  | _, _, .int i, _ => .int i
  | _, _, .str x, _ => .str x
  | _, _, .lst hs ha, f => .lst hs (DqA.dp ha (by simpa [PyData.canLay0] using f))
  | _, _, .tup hs ha, f => .tup hs (DqA.dp ha (by simpa [PyData.canLay0] using f))
  | _, _, .dic _ _, f => by simp [PyData.canLay0] at f
theorem DqA.dp : ∀ {vs : List V} {ds : List PyData}, DqA K H vs ds → PyData.canLayAll0 ds = true → DpAll K H vs ds
  | _, _, .nil, _ => .nil
  | _, _, .cons h1 h2, f => by
    simp only [PyData.canLayAll0, Bool.and_eq_true] at f
    exact .cons (Dq.dp h1 f.1) (DqA.dp h2 f.2)
end
end
/-- x == y, x != y of data -/
def rEqQ (K : PySem.W.Frag) : R2 := fun x y H Q => ∃ d e, Dq K H x d ∧ Dq K H y e ∧ SeqAt.shaped d = true ∧ SeqAt.shaped e = true ∧ Q (.bl (PyData.eqv d e)) H
def rNeQ (K : PySem.W.Frag) : R2 := fun x y H Q => ∃ d e, Dq K H x d ∧ Dq K H y e ∧ SeqAt.shaped d = true ∧ SeqAt.shaped e = true ∧ Q (.bl (!PyData.eqv d e)) H
theorem op_eqQ {X : Cx} (hu : X.A.units + 64 < cLine) : OpR X (compareOp .Eq) (rEqQ X.K) := fun pins s σ H x y v u Q I rx ry h => by
  obtain ⟨d, e, h1, h2, h3, h4, q⟩ := h
  exact op_eqD hu pins s σ H x y v u Q I rx ry ⟨d, e, h1.dp (SeqAt.canLay_of_shaped h3), h2.dp (SeqAt.canLay_of_shaped h4), h3, h4, q⟩
theorem op_neQ {X : Cx} (hu : X.A.units + 64 < cLine) : OpR X (compareOp .NotEq) (rNeQ X.K) := fun pins s σ H x y v u Q I rx ry h => by
  obtain ⟨d, e, h1, h2, h3, h4, q⟩ := h
  exact op_neD hu pins s σ H x y v u Q I rx ry ⟨d, e, h1.dp (SeqAt.canLay_of_shaped h3), h2.dp (SeqAt.canLay_of_shaped h4), h3, h4, q⟩
theorem hu64 {A : Around} {k : Nat} (hr : Room k A) : A.units + 64 < cLine := Nat.lt_of_le_of_lt (Nat.add_le_add_left (by decide : 64 ≤ 64) _) hr.units
/-- texts that may be laid -/
def Oks (ss : List Str) : Prop := ∀ x ∈ ss, PyData.strOk x = true
theorem canLay_strs : ∀ {ss : List Str}, Oks ss → PyData.canLayAll0 (ss.map .str) = true
  | [], _ => rfl
  | x :: ss, h => by
    show (PyData.canLay0 (.str x) && PyData.canLayAll0 (ss.map .str)) = true
    rw [canLay_strs fun y m => h y (List.mem_cons_of_mem _ m)]
    show (PyData.strOk x && true) = true
    rw [h x List.mem_cons_self]
    rfl
theorem shaped_row {r : List Str} (h : Oks r) : SeqAt.shaped (rowD r) = true := by
  unfold SeqAt.shaped rowD
  rw [PyData.canLay0, canLay_strs h, PyData.depth, depth_strs]
  rfl
theorem canLay_rows : ∀ {rs : List (List Str)}, (∀ r ∈ rs, Oks r) → PyData.canLayAll0 (rs.map rowD) = true
  | [], _ => rfl
  | r :: rs, h => by
    show (PyData.canLay0 (rowD r) && PyData.canLayAll0 (rs.map rowD)) = true
    rw [canLay_rows fun y m => h y (List.mem_cons_of_mem _ m), SeqAt.canLay_of_shaped (shaped_row (h r List.mem_cons_self))]
    rfl
theorem depth_rows : ∀ (rs : List (List Str)), PyData.depthAll (rs.map rowD) ≤ 1
  | [] => by simp [PyData.depthAll]
  | r :: rs => by
    show PyData.depthAll (rowD r :: rs.map rowD) ≤ 1
    have h := depth_rows rs
    unfold rowD at h ⊢
    rw [PyData.depthAll, PyData.depth, depth_strs]
    omega
theorem shaped_rowsL {rs : List (List Str)} (h : ∀ r ∈ rs, Oks r) : SeqAt.shaped (.list (rs.map rowD)) = true := by
  unfold SeqAt.shaped
  have d := depth_rows rs
  rw [PyData.canLay0, canLay_rows h, PyData.depth, Bool.true_and, decide_eq_true_eq]
  omega
theorem shaped_rowsT {rs : List (List Str)} (h : ∀ r ∈ rs, Oks r) : SeqAt.shaped (.tuple (rs.map rowD)) = true := by
  unfold SeqAt.shaped
  have d := depth_rows rs
  rw [PyData.canLay0, canLay_rows h, PyData.depth, Bool.true_and, decide_eq_true_eq]
  omega
theorem eqvAll_strs : ∀ (r q : List Str), PyData.eqvAll (r.map .str) (q.map .str) = decide (r = q)
  | [], [] => by simp [PyData.eqvAll]
  | [], _ :: _ => by simp [PyData.eqvAll]
  | _ :: _, [] => by simp [PyData.eqvAll]
  | x :: r, y :: q => by
    show PyData.eqvAll (.str x :: r.map .str) (.str y :: q.map .str) = _
    rw [PyData.eqvAll, eqvAll_strs r q, PyData.eqv]
    by_cases h : x = y
    · subst h
      simp
    · simp [h]
theorem eqv_row (r q : List Str) : PyData.eqv (rowD r) (rowD q) = decide (r = q) := by
  unfold rowD
  rw [PyData.eqv]
  exact eqvAll_strs r q
/-- Kp for data that does not lean on b -/
theorem DB.kp {K : PySem.W.Frag} {b : Addr} {H H' : Hp} {v : V} {d : PyData} (h : DB K b H v d) (k : Kp b H H') : DB K b H' v d := h.mono (del_same_of k)
theorem DB.q {K : PySem.W.Frag} {b : Addr} {H : Hp} {v : V} {d : PyData} (h : DB K b H v d) : Dq K H v d := h.mono hid_sub
end Ly

namespace Ly
open PySem PySem.Spec PyProof.Rows L2
/-! what drawing from the bag at b leaves: all but b, and b a bag over the same cells -/
def Bg (b : Addr) (H H' : Hp) : Prop := ∃ q x0 x1 x2 ms y0 y1 y2 ns, BagAt H b q x0 x1 x2 ms ∧ BagAt H' b q y0 y1 y2 ns
structure Dr (b : Addr) (H H' : Hp) : Prop where
  kp : Kp b H H'
  bg : Bg b H H'
section
variable {K : PySem.W.Frag} {b p t : Addr} {H H1 H' : Hp} {o : HO} {xs : List V}
theorem BagAt.uniq {q q' : Addr} {x0 x1 x2 y0 y1 y2 : Int} {ms ns : List Int} (h : BagAt H b q x0 x1 x2 ms) (h' : BagAt H b q' y0 y1 y2 ns) : q = q' := by
  have e := HO.lst.inj (Option.some.inj (h.top.symm.trans h'.top))
  simp only [List.cons.injEq, V.ref.injEq] at e
  exact e.2.2.2.1
theorem Dr.old (d : Dr b H H') : IsBag H b := by
  obtain ⟨q, x0, x1, x2, ms, y0, y1, y2, ns, h, h'⟩ := d.bg
  exact ⟨q, x0, x1, x2, ms, h⟩
theorem Dr.bag (d : Dr b H H') : IsBag H' b := by
  obtain ⟨q, x0, x1, x2, ms, y0, y1, y2, ns, h, h'⟩ := d.bg
  exact ⟨q, y0, y1, y2, ns, h'⟩
theorem Dr.trans (d : Dr b H H1) (e : Dr b H1 H') : Dr b H H' := by
  refine ⟨d.kp.trans e.kp, ?_⟩
  obtain ⟨q, x0, x1, x2, ms, y0, y1, y2, ns, h, h'⟩ := d.bg
  obtain ⟨q2, z0, z1, z2, ls, w0, w1, w2, os, g, g'⟩ := e.bg
  have eq := h'.uniq g
  subst eq
  exact ⟨q, x0, x1, x2, ms, w0, w1, w2, os, h, g'⟩
theorem Dr.same (hB : IsBag H b) (s : Same H H') : Dr b H H' := by
  obtain ⟨q, x0, x1, x2, ms, h⟩ := hB
  exact ⟨Same.kp s, q, x0, x1, x2, ms, x0, x1, x2, ms, h, h.same s⟩
theorem Dr.refl (hB : IsBag H b) : Dr b H H := Dr.same hB (Same.refl H)
theorem Dr.new (hB : IsBag H b) (hp : H p = none) : Dr b H (upd H p o) := Dr.same hB (same_new hp)
/-- an object that came later is written -/
theorem Dr.wr (d : Dr b H H1) (hp : H p = none) : Dr b H (upd H1 p o) := by
  obtain ⟨q, x0, x1, x2, ms, y0, y1, y2, ns, h, h'⟩ := d.bg
  refine ⟨fun a u n e => ?_, q, x0, x1, x2, ms, y0, y1, y2, ns, h, ⟨?_, ?_, h'.n0, h'.n1, h'.n2, h'.few⟩⟩
  · rw [upd_ne (ne_of_none e hp)]
    exact d.kp a u n e
  · rw [upd_ne (ne_of_none h.top hp)]
    exact h'.top
  · rw [upd_ne (ne_of_none h.cells hp)]
    exact h'.cells
theorem IsBag.ne (hB : IsBag H b) (hp : H p = none) : p ≠ b := by
  rintro rfl
  obtain ⟨ys, e⟩ := hB.top
  rw [hp] at e
  cases e
theorem Dr.free (d : Dr b H H') (hp : H' p = none) : H p = none := by
  match e : H p with
  | none => rfl
  | some u =>
    by_cases n : p = b
    · subst n
      obtain ⟨ys, z⟩ := d.bag.top
      rw [hp] at z
      cases z
    · have z := d.kp p u n e
      rw [hp] at z
      cases z
theorem Dr.seqL (d : Dr b H H') (n : t ≠ b) (hs : SqL K H t xs) : SqL K H' t xs := by
  rcases hs with (e | ⟨o, e⟩) | e
  · exact .inl (.inl (d.kp t _ n e))
  · exact .inl (.inr ⟨o, d.kp t _ n e⟩)
  · exact .inr e
theorem Dr.seqT (d : Dr b H H') (hs : SqT K H t xs) : SqT K H' t xs := by
  obtain ⟨ys, eb⟩ := d.old.top
  refine d.kp.seqT hs (fun zs z => ?_) (fun o zs z => ?_)
  · rw [eb] at z
    cases z
  · rw [eb] at z
    cases z
theorem Dr.at_ (d : Dr b H H') (n : t ≠ b) (e : H t = some o) : H' t = some o := d.kp t o n e
end
/-! data of tuples alone never leans on a bag -/
mutual
def tupD : PyData → Bool
  | .list _ => false
  | .dict _ => false
  | .tuple xs => tupDs xs
  | _ => true
def tupDs : List PyData → Bool
  | [] => true
  | d :: ds => tupD d && tupDs ds
end
mutual
theorem Dq.dr {K : PySem.W.Frag} {b : Addr} {H H' : Hp} (z : Dr b H H') : ∀ {v : V} {d : PyData}, Dq K H v d → tupD d = true → Dq K H' v d
  | _, _, .non, _ => .non
  | _, _, .bl c, _ => .bl c
  | _, _, .int i, _ => .int i
  | _, _, .str x, _ => .str x
  | _, _, .lst _ _, f => by simp [tupD] at f
  | _, _, .tup hs ha, f => .tup (z.seqT hs) (DqA.dr z ha (by simpa [tupD] using f))
  | _, _, .dic _ _, f => by simp [tupD] at f
theorem DqA.dr {K : PySem.W.Frag} {b : Addr} {H H' : Hp} (z : Dr b H H') : ∀ {vs : List V} {ds : List PyData}, DqA K H vs ds → tupDs ds = true → DqA K H' vs ds
  | _, _, .nil, _ => .nil
  | _, _, .cons h1 h2, f => by
    simp only [tupDs, Bool.and_eq_true] at f
    exact .cons (Dq.dr z h1 f.1) (DqA.dr z h2 f.2)
end
theorem tup_strs : ∀ (ss : List Str), tupDs (ss.map .str) = true
  | [] => rfl
  | x :: ss => by
    show (tupD (.str x) && tupDs (ss.map .str)) = true
    rw [tup_strs ss]
    rfl
theorem tup_row (r : List Str) : tupD (rowD r) = true := tup_strs r
theorem tup_rows : ∀ (rs : List (List Str)), tupDs (rs.map rowD) = true
  | [] => rfl
  | r :: rs => by
    show (tupD (rowD r) && tupDs (rs.map rowD)) = true
    rw [tup_row, tup_rows rs]
    rfl
theorem Tups.dr {K : PySem.W.Frag} {b : Addr} {H H' : Hp} {ks : List (Addr × List Str)} (h : Tups K H ks) (z : Dr b H H') : Tups K H' ks := fun q m => z.seqT (h q m)
theorem Tups.same {K : PySem.W.Frag} {H H' : Hp} {ks : List (Addr × List Str)} (h : Tups K H ks) (z : Same H H') : Tups K H' ks := fun q m => Same.seqT z (h q m)
theorem Tups.app {K : PySem.W.Frag} {H : Hp} {ks ls : List (Addr × List Str)} (h : Tups K H ks) (h' : Tups K H ls) : Tups K H (ks ++ ls) := fun q m => (List.mem_append.mp m).elim (h q) (h' q)
theorem refs_app {β : Type} (ks ls : List (Addr × β)) : refsOf (ks ++ ls) = refsOf ks ++ refsOf ls := List.map_append ..
theorem take_step {α : Type} {l : List α} {i : Nat} {x : α} (h : l[i]? = some x) : l.take (i + 1) = l.take i ++ [x] := by
  rw [List.take_add_one, h]
  rfl
/-- all sub-rows of a row -/
def lotsR (ts : List Str) : List (List Str) := ts.foldl (fun f t => f ++ f.map (· ++ [t])) [[]]
theorem lotsR_snoc (ts : List Str) (t : Str) : lotsR (ts ++ [t]) = lotsR ts ++ (lotsR ts).map (· ++ [t]) := by
  unfold lotsR
  rw [List.foldl_append]
  rfl
theorem lotsR_len : ∀ ts : List Str, (lotsR ts).length = 2 ^ ts.length := by
  have go : ∀ n (ts : List Str), ts.length = n → (lotsR ts).length = 2 ^ n := by
    intro n
    induction n with
    | zero =>
      intro ts h
      rw [List.eq_nil_of_length_eq_zero h]
      rfl
    | succ n ih =>
      intro ts h
      have ne : ts ≠ [] := by
        rintro rfl
        cases h
      have e : ts.dropLast ++ [ts.getLast ne] = ts := List.dropLast_concat_getLast ne
      rw [← e, lotsR_snoc, List.length_append, List.length_map, ih _ (by rw [List.length_dropLast]; omega), Nat.pow_succ]
      omega
  exact fun ts => go _ ts rfl
theorem lotsR_mem : ∀ (ts r : List Str), r ∈ lotsR ts → r.Sublist ts := by
  have go : ∀ n (ts : List Str), ts.length = n → ∀ r, r ∈ lotsR ts → r.Sublist ts := by
    intro n
    induction n with
    | zero =>
      intro ts h r hr
      have e := List.eq_nil_of_length_eq_zero h
      subst e
      have e : r = [] := by simpa [lotsR] using hr
      rw [e]
      exact .slnil
    | succ n ih =>
      intro ts h r hr
      have ne : ts ≠ [] := by
        rintro rfl
        cases h
      have e : ts.dropLast ++ [ts.getLast ne] = ts := List.dropLast_concat_getLast ne
      have le : ts.dropLast.length = n := by
        rw [List.length_dropLast]
        omega
      rw [← e, lotsR_snoc] at hr
      rw [← e]
      rcases List.mem_append.mp hr with m | m
      · exact (ih _ le r m).trans (List.sublist_append_left _ _)
      · obtain ⟨u, hu, rfl⟩ := List.mem_map.mp m
        exact (ih _ le u hu).append (List.Sublist.refl _)
  exact fun ts r => go _ ts rfl r
theorem Same.wr {H H1 : Hp} {p : Addr} {o : HO} (s : Same H H1) (hp : H p = none) : Same H (upd H1 p o) := fun c u e => by
  rw [upd_ne (ne_of_none e hp)]
  exact s c u e
theorem seqT_wr {K : PySem.W.Frag} {H : Hp} {D a : Addr} {o : HO} {xs ys : List V} (hD : H D = some (.lst xs)) (h : SqT K H a ys) : SqT K (upd H D o) a ys := by
  rcases h with (e | ⟨u, e⟩) | e
  · exact .inl (.inl (by rw [upd_ne (ne_of e hD (by simp))]; exact e))
  · exact .inl (.inr ⟨u, by rw [upd_ne (ne_of e hD (by simp))]; exact e⟩)
  · exact .inr e
theorem tups_wr {K : PySem.W.Frag} {H : Hp} {D : Addr} {o : HO} {xs : List V} {ks : List (Addr × List Str)} (hD : H D = some (.lst xs)) (h : Tups K H ks) : Tups K (upd H D o) ks := fun q m => seqT_wr hD (h q m)
theorem ref_at {β : Type} {ks : List (Addr × β)} {j : Nat} {y : V} (h : (refsOf ks)[j]? = some y) : ∃ q, ks[j]? = some q ∧ y = .ref q.1 := by
  unfold refsOf at h
  rw [List.getElem?_map] at h
  obtain ⟨q, h1, h2⟩ := Option.map_eq_some_iff.mp h
  exact ⟨q, h1, h2.symm⟩
theorem str_at {ts : List Str} {j : Nat} {y : V} (h : (ts.map V.str)[j]? = some y) : ∃ t, ts[j]? = some t ∧ y = .str t := by
  rw [List.getElem?_map] at h
  obtain ⟨q, h1, h2⟩ := Option.map_eq_some_iff.mp h
  exact ⟨q, h1, h2.symm⟩
theorem refs_len {β : Type} (ks : List (Addr × β)) : (refsOf ks).length = ks.length := List.length_map ..
theorem ite2' {c : Bool} {A B : Prop} (h1 : c = true → A) (h2 : c = false → B) : if c = true then A else B := by
  cases c with
  | true => exact h1 rfl
  | false => exact iteF (h2 rfl)
theorem not_all {α : Type} {l : List α} {β : Type} {f : α → β} {y : β} (h : ¬ ∀ q ∈ l, f q ≠ y) : ∃ q ∈ l, f q = y := by
  rcases Classical.em (∃ q ∈ l, f q = y) with c | c
  · exact c
  · exact absurd (fun q m e => c ⟨q, m, e⟩) h
theorem cut_take' (xs : List V) (k : Nat) : cutV xs none (some (k : Int)) = xs.take k := by
  unfold cutV
  rw [HT.sIx_nat, show HT.sIx xs.length 0 none = 0 from HT.sIx_none _ _]
  simp only [List.drop_zero, Nat.sub_zero]
  by_cases h : k ≤ xs.length
  · rw [Nat.min_eq_left h]
  · rw [Nat.min_eq_right (by omega), List.take_of_length_le (Nat.le_refl _), List.take_of_length_le (by omega)]
theorem tup_ne {H : Hp} {b t : Addr} {xs : List V} (hB : IsBag H b) (h : H t = some (.tup xs)) : t ≠ b := by
  rintro rfl
  obtain ⟨ys, e⟩ := hB.top
  rw [h] at e
  cases e
mutual
theorem Dq.wr {K : PySem.W.Frag} {H : Hp} {D : Addr} {o : HO} {xs : List V} (hD : H D = some (.lst xs)) : ∀ {v : V} {d : PyData}, Dq K H v d → tupD d = true → Dq K (upd H D o) v d
  | _, _, .non, _ => .non
  | _, _, .bl c, _ => .bl c
  | _, _, .int i, _ => .int i
  | _, _, .str x, _ => .str x
  | _, _, .lst _ _, f => by simp [tupD] at f
  | _, _, .tup hs ha, f => .tup (seqT_wr hD hs) (DqA.wr hD ha (by simpa [tupD] using f))
  | _, _, .dic _ _, f => by simp [tupD] at f
theorem DqA.wr {K : PySem.W.Frag} {H : Hp} {D : Addr} {o : HO} {xs : List V} (hD : H D = some (.lst xs)) : ∀ {vs : List V} {ds : List PyData}, DqA K H vs ds → tupDs ds = true → DqA K (upd H D o) vs ds
  | _, _, .nil, _ => .nil
  | _, _, .cons h1 h2, f => by
    simp only [tupDs, Bool.and_eq_true] at f
    exact .cons (Dq.wr hD h1 f.1) (DqA.wr hD h2 f.2)
end
theorem fewer {n : Nat} (h : n ≤ 100000) : n < sizeLine := by
  rw [sizeLine_eq]
  omega
end Ly

namespace Ly
open PySem PySem.Spec PyProof.Rows L2
/-! drawn WORLDS as data -/
def poolA : List Str := ["a", "b", "c", "d", "sea", "w2"]
def poolB : List Str := ["m", "right", "c1", "odd", "abcdefghij12", "x"]
def placesA : List Str := ["m", "n", "odd", "z9"]
def wordsA : List Str := ["right", "down", "up2", "x"]
structure NamesOk (all : List Str) (n : Nat) (zs : List Str) : Prop where
  asc : sortedS zs = true
  once : zs.Nodup
  of : ∀ x ∈ zs, x ∈ all
  len : zs.length = n
theorem names_of {all pool us zs : List Str} {n : Nat} (h : us.Perm pool) (nd : pool.Nodup) (of : ∀ x ∈ pool, x ∈ all) (hn : n ≤ pool.length) (hz : zs.Perm (us.take n)) (hs : sortedS zs = true) : NamesOk all n zs := by
  refine ⟨hs, hz.nodup_iff.mpr ((h.nodup_iff.mpr nd).sublist (List.take_sublist _ _)), fun x m => of x (h.mem_iff.mp (List.mem_of_mem_take (hz.mem_iff.mp m))), ?_⟩
  rw [hz.length_eq, List.length_take, h.length_eq]
  omega
theorem perm_strs {ys : List V} {ss : List Str} (h : ys.Perm (ss.map V.str)) : ∃ us : List Str, ys = us.map V.str ∧ us.Perm ss := perm_back h.symm ss rfl
/-- couples of tiles -/
structure GoodC (ts : List Str) (cs : List (List Str)) : Prop where
  of : ∀ r ∈ cs, ∃ x ∈ ts, ∃ y ∈ ts, r = [x, y]
  once : cs.Nodup
  fst : ∀ x ∈ ts, ∃ y ∈ ts, [x, y] ∈ cs
  snd : ∀ y ∈ ts, ∃ x ∈ ts, [x, y] ∈ cs
  few : cs.length ≤ 63
/-- rows in the order of sorted -/
def AscR (rs : List (List Str)) : Prop := ∃ ls : List (Addr × List Str), rs = (ls.mergeSort leT).map (·.2)
structure Wld where
  tiles : List Str
  tabs : List (Str × List (List Str))
  marks : List Str
  ties : List (List Str)
  told : List (List Str)
def tabD (t : Str × List (List Str)) : PyData := .tuple [.str t.1, .tuple (t.2.map rowD)]
def Wld.d (W : Wld) : PyData := .tuple [rowD W.tiles, .tuple (W.tabs.map tabD), rowD W.marks, .tuple (W.ties.map rowD), .tuple (W.told.map rowD)]
structure GoodW (W : Wld) : Prop where
  tiles : ∃ n, 1 ≤ n ∧ n ≤ 4 ∧ NamesOk (poolA ++ poolB) n W.tiles
  kinds : ∃ n, n ≤ 4 ∧ NamesOk wordsA n (W.tabs.map (·.1))
  cpl : ∀ t ∈ W.tabs, GoodC W.tiles t.2 ∧ AscR t.2
  marks : ∃ n, 1 ≤ n ∧ n ≤ 4 ∧ NamesOk placesA n W.marks
  ties : ∀ r ∈ W.ties, ∃ k ∈ W.tabs.map (·.1), ∃ x ∈ W.marks, ∃ y ∈ W.marks, r = [k, x, y]
  tieOnce : W.ties.Nodup
  tieAsc : AscR W.ties
  tieFew : W.ties.length ≤ 40
  told : ∀ r ∈ W.told, r ≠ [] ∧ r ∈ lotsR W.tiles
  toldAsc : ∃ ls : List (Addr × List Str), ls.map (·.2) = (lotsR W.tiles).filter (fun r => !decide (r = [])) ∧ W.told.Sublist ((ls.mergeSort leT).map (·.2))
  toldFew : W.told.length ≤ 3
theorem oks_all : ∀ x ∈ poolA ++ poolB ++ placesA ++ wordsA, PyData.strOk x = true := by decide +kernel
theorem pools : poolA.Nodup ∧ poolB.Nodup ∧ placesA.Nodup ∧ wordsA.Nodup := by decide +kernel
theorem NamesOk.oks {all zs : List Str} {n : Nat} (h : NamesOk all n zs) (s : ∀ x ∈ all, x ∈ poolA ++ poolB ++ placesA ++ wordsA) : Oks zs := fun x m => oks_all x (s x (h.of x m))
theorem tup_tabs : ∀ (ts : List (Str × List (List Str))), tupDs (ts.map tabD) = true
  | [] => rfl
  | t :: ts => by
    show (tupD (tabD t) && tupDs (ts.map tabD)) = true
    rw [tup_tabs ts]
    show (tupDs [.str t.1, .tuple (t.2.map rowD)] && true) = true
    show ((tupD (.str t.1) && (tupD (.tuple (t.2.map rowD)) && tupDs [])) && true) = true
    show ((true && (tupDs (t.2.map rowD) && true)) && true) = true
    rw [tup_rows]
    rfl
theorem tup_wld (W : Wld) : tupD W.d = true := by
  show tupDs [rowD W.tiles, .tuple (W.tabs.map tabD), rowD W.marks, .tuple (W.ties.map rowD), .tuple (W.told.map rowD)] = true
  simp only [tupDs, tup_row, tupD, tup_tabs, tup_rows, Bool.and_self, Bool.true_and]
/-- a table at an address -/
def TabAt (K : PySem.W.Frag) (H : Hp) (v : V) (t : Str × List (List Str)) : Prop := Dq K H v (tabD t)
end Ly

namespace Ly
open PySem PySem.Spec PyProof.Rows L2
/-! the common TILES of some LOTS -/
def met (o a : List Str) : List Str := o.filter fun t => decide (t ∈ a)
def mets (o : List Str) (A : List (List Str)) : List Str := o.filter fun t => A.all fun a => decide (t ∈ a)
/-- common TILES of one of L and of some of the first k of them -/
def MeetsK (L : List (List Str)) (k : Nat) (r : List Str) : Prop := r ≠ [] ∧ ∃ o ∈ L, ∃ A : List (List Str), (∀ a ∈ A, a ∈ L.take k) ∧ r = mets o A
def Meets (L : List (List Str)) (r : List Str) : Prop := r ≠ [] ∧ ∃ o ∈ L, ∃ A : List (List Str), (∀ a ∈ A, a ∈ L) ∧ r = mets o A
theorem mets_nil (o : List Str) : mets o [] = o := by
  unfold mets
  simp
theorem mets_cons (o a : List Str) (A : List (List Str)) : mets o (a :: A) = met (mets o A) a := by
  unfold mets met
  rw [List.filter_filter]
  exact List.filter_congr fun t _ => by simp [List.all_cons]
theorem meetsK_zero {L : List (List Str)} {r : List Str} : MeetsK L 0 r ↔ r ≠ [] ∧ r ∈ L := by
  constructor
  · rintro ⟨h, o, ho, A, hA, e⟩
    cases A with
    | nil =>
      rw [mets_nil] at e
      exact ⟨h, e ▸ ho⟩
    | cons a A => exact absurd (hA a List.mem_cons_self) (by simp)
  · rintro ⟨h, m⟩
    exact ⟨h, r, m, [], fun _ z => (by cases z), (mets_nil r).symm⟩
theorem meetsK_all {L : List (List Str)} {r : List Str} : MeetsK L L.length r ↔ Meets L r := by
  unfold MeetsK Meets
  rw [List.take_length]
theorem meetsK_succ {L : List (List Str)} {k : Nat} {one r : List Str} (h : L[k]? = some one) : MeetsK L (k + 1) r ↔ MeetsK L k r ∨ ∃ q, MeetsK L k q ∧ r = met q one ∧ r ≠ [] := by
  constructor
  · rintro ⟨hr, o, ho, A, hA, e⟩
    rw [take_step h] at hA
    by_cases c : one ∈ A
    · right
      have e2 : r = met (mets o (A.filter fun a => decide (a ≠ one))) one := by
        rw [e]
        unfold mets met
        rw [List.filter_filter]
        refine List.filter_congr fun t _ => ?_
        rw [Bool.eq_iff_iff]
        simp only [List.all_eq_true, Bool.and_eq_true, decide_eq_true_eq, List.mem_filter]
        constructor
        · exact fun z => ⟨z one c, fun a m => z a m.1⟩
        · intro ⟨z1, z2⟩ a m
          by_cases e3 : a = one
          · rw [e3]
            exact z1
          · exact z2 a ⟨m, e3⟩
      refine ⟨mets o (A.filter fun a => decide (a ≠ one)), ⟨fun z => ?_, o, ho, _, fun a m => ?_, rfl⟩, e2, hr⟩
      · rw [z] at e2
        exact hr e2
      · obtain ⟨m1, m2⟩ := List.mem_filter.mp m
        rcases List.mem_append.mp (hA a m1) with z | z
        · exact z
        · exact absurd (List.mem_singleton.mp z) (of_decide_eq_true m2)
    · left
      refine ⟨hr, o, ho, A, fun a m => ?_, e⟩
      rcases List.mem_append.mp (hA a m) with z | z
      · exact z
      · exact absurd ((List.mem_singleton.mp z) ▸ m) c
  · rintro (⟨hr, o, ho, A, hA, e⟩ | ⟨q, ⟨hq, o, ho, A, hA, e⟩, e2, hr⟩)
    · exact ⟨hr, o, ho, A, fun a m => by rw [take_step h]; exact List.mem_append_left _ (hA a m), e⟩
    · refine ⟨hr, o, ho, one :: A, fun a m => ?_, by rw [mets_cons, ← e, e2]⟩
      rw [take_step h]
      rcases List.mem_cons.mp m with z | z
      · rw [z]
        simp
      · exact List.mem_append_left _ (hA a z)
theorem meets_congr {L L' : List (List Str)} (h : ∀ r, r ∈ L ↔ r ∈ L') (r : List Str) : Meets L r ↔ Meets L' r := by
  unfold Meets
  constructor
  · rintro ⟨hr, o, ho, A, hA, e⟩
    exact ⟨hr, o, (h o).mp ho, A, fun a m => (h a).mp (hA a m), e⟩
  · rintro ⟨hr, o, ho, A, hA, e⟩
    exact ⟨hr, o, (h o).mpr ho, A, fun a m => (h a).mpr (hA a m), e⟩
theorem sub_one {α : Type} {r : List α} {t : α} (h : r.Sublist [t]) : r = [] ∨ r = [t] := by
  cases h with
  | cons _ h => exact .inl (List.sublist_nil.mp h)
  | cons_cons _ h => exact .inr (by rw [List.sublist_nil.mp h])
theorem lotsR_all : ∀ (ts r : List Str), r.Sublist ts → r ∈ lotsR ts := by
  have go : ∀ n (ts : List Str), ts.length = n → ∀ r : List Str, r.Sublist ts → r ∈ lotsR ts := by
    intro n
    induction n with
    | zero =>
      intro ts h r hr
      have e := List.eq_nil_of_length_eq_zero h
      subst e
      rw [List.sublist_nil.mp hr]
      simp [lotsR]
    | succ n ih =>
      intro ts h r hr
      have ne : ts ≠ [] := by
        rintro rfl
        cases h
      have e : ts.dropLast ++ [ts.getLast ne] = ts := List.dropLast_concat_getLast ne
      have le : ts.dropLast.length = n := by
        rw [List.length_dropLast]
        omega
      rw [← e] at hr ⊢
      rw [lotsR_snoc]
      obtain ⟨r1, r2, rfl, h1, h2⟩ := List.sublist_append_iff.mp hr
      have m1 := ih _ le r1 h1
      rcases sub_one h2 with z | z
      · rw [z, List.append_nil]
        exact List.mem_append_left _ m1
      · rw [z]
        exact List.mem_append_right _ (List.mem_map.mpr ⟨r1, m1, rfl⟩)
  exact fun ts r => go _ ts rfl r
theorem nodup_le {α : Type} [DecidableEq α] : ∀ (l D : List α), l.Nodup → (∀ x ∈ l, x ∈ D) → l.length ≤ D.length
  | [], _, _, _ => Nat.zero_le _
  | x :: l, D, hn, hs => by
    obtain ⟨h1, h2⟩ := List.nodup_cons.mp hn
    have hx : x ∈ D := hs x List.mem_cons_self
    have ih := nodup_le l (D.erase x) h2 fun y hy => (List.mem_erase_of_ne (fun e => h1 (by rw [← e]; exact hy))).2 (hs y (List.mem_cons_of_mem _ hy))
    have e := List.length_erase_of_mem hx
    have hp : 0 < D.length := List.length_pos_of_mem hx
    rw [List.length_cons]
    omega
/-- LOTS, each once: there are few -/
theorem lots_few {ts : List Str} (h4 : ts.length ≤ 4) {F : List (List Str)} (nd : F.Nodup) (sub : ∀ r ∈ F, r.Sublist ts) : F.length ≤ 16 := by
  refine Nat.le_trans (nodup_le F (lotsR ts) nd fun r m => lotsR_all ts r (sub r m)) ?_
  rw [lotsR_len]
  exact Nat.pow_le_pow_right (n := 2) (by decide) h4
theorem met_sub (o a : List Str) : (met o a).Sublist o := List.filter_sublist
theorem meets_sub {ts : List Str} {L : List (List Str)} {k : Nat} {r : List Str} (sub : ∀ r ∈ L, r.Sublist ts) (h : MeetsK L k r) : r.Sublist ts := by
  obtain ⟨_, o, ho, A, _, e⟩ := h
  rw [e]
  exact (List.filter_sublist).trans (sub o ho)
theorem inV_str (t : Str) : ∀ one : List Str, inV (V.str t) (one.map V.str) = decide (t ∈ one)
  | [] => rfl
  | x :: one => by
    have ih := inV_str t one
    unfold inV at ih ⊢
    rw [List.map_cons, List.any_cons, ih]
    by_cases h : x = t
    · subst h
      simp [eqV]
    · have h' : t ≠ x := fun z => h z.symm
      simp [eqV, h, h']
theorem flat_strV : ∀ one : List Str, (one.map V.str).all flatV = true
  | [] => rfl
  | x :: one => by
    rw [List.map_cons, List.all_cons, flat_strV one]
    rfl
theorem map_at {α β : Type} {l : List α} {f : α → β} {i : Nat} {x : α} (h : l[i]? = some x) : (l.map f)[i]? = some (f x) := by
  rw [List.getElem?_map, h]
  rfl
theorem ite_in {t : Str} {one : List Str} {A B : Prop} (h1 : t ∈ one → A) (h2 : t ∉ one → B) : if (if (false : Bool) = true then !inV (V.str t) (one.map V.str) else inV (V.str t) (one.map V.str)) = true then A else B := by
  have e : (if (false : Bool) = true then !inV (V.str t) (one.map V.str) else inV (V.str t) (one.map V.str)) = decide (t ∈ one) := inV_str t one
  rw [e]
  by_cases h : t ∈ one
  · rw [decide_eq_true h]
    exact h1 h
  · rw [decide_eq_false h]
    exact h2 h
end Ly

namespace Ly
open PySem PySem.Spec PyProof.Rows L2
/-! the order of rows of texts -/
def leR : List Str → List Str → Bool := PySem.W.dataLe false rowD
theorem leT_leR (a b : Addr × List Str) : leT a b = leR a.2 b.2 := rfl
theorem sort_rows (ls : List (Addr × List Str)) : (ls.mergeSort leT).map (·.2) = (ls.map (·.2)).mergeSort leR := List.map_mergeSort fun a _ b _ => leT_leR a b
theorem toks_row : ∀ {r q : List Str}, PySem.W.keyToksAll (r.map .str) = PySem.W.keyToksAll (q.map .str) → r = q
  | [], [], _ => rfl
  | [], _ :: _, h => by simp [PySem.W.keyToksAll] at h
  | _ :: _, [], h => by simp [PySem.W.keyToksAll] at h
  | x :: r, y :: q, h => by
    simp only [List.map_cons, PySem.W.keyToksAll, PySem.W.keyToks, List.cons_append, List.nil_append, List.cons.injEq, Sum.inr.injEq, true_and] at h
    obtain ⟨h1, h2⟩ := h
    obtain ⟨c1⟩ := x
    obtain ⟨c2⟩ := y
    have e : c1 = c2 := Array.toList_inj.mp h1
    subst e
    rw [toks_row h2]
theorem leR_anti {r q : List Str} (h1 : leR r q = true) (h2 : leR q r = true) : r = q := by
  have e1 : (!PyProof.Rows.lexLt PyProof.Rows.itemOrd (PySem.W.keyToks (rowD q)) (PySem.W.keyToks (rowD r))) = true := h1
  have e2 : (!PyProof.Rows.lexLt PyProof.Rows.itemOrd (PySem.W.keyToks (rowD r)) (PySem.W.keyToks (rowD q))) = true := h2
  rw [Bool.not_eq_true'] at e1 e2
  have e := (PyProof.Rows.listOrd PyProof.Rows.itemOrd).total _ _ e1 e2
  unfold rowD at e
  simp only [PySem.W.keyToks] at e
  exact (toks_row e).symm
theorem leR_asc (rs : List (List Str)) : (rs.mergeSort leR).Pairwise fun a b => leR a b = true := PySem.W.sort_pairwise (PySem.W.sortLe_total _ false _) rs
/-- two lists of the same rows, each once, are one when sorted -/
theorem sort_eq {rs qs : List (List Str)} (h1 : rs.Nodup) (h2 : qs.Nodup) (h : ∀ r, r ∈ rs ↔ r ∈ qs) : rs.mergeSort leR = qs.mergeSort leR := by
  refine List.Perm.eq_of_pairwise (le := fun a b => leR a b = true) (fun a b _ _ => leR_anti) (leR_asc rs) (leR_asc qs) ?_
  exact ((List.mergeSort_perm _ _).trans ((List.perm_ext_iff_of_nodup h1 h2).mpr h)).trans (List.mergeSort_perm _ _).symm
theorem ascR_iff {rs : List (List Str)} : AscR rs ↔ rs.mergeSort leR = rs := by
  constructor
  · rintro ⟨ls, rfl⟩
    rw [sort_rows]
    exact List.Perm.eq_of_pairwise (le := fun a b => leR a b = true) (fun a b _ _ => leR_anti) (leR_asc _) (leR_asc _) (List.mergeSort_perm _ _)
  · intro h
    refine ⟨rs.map fun r => (0, r), ?_⟩
    rw [sort_rows, List.map_map]
    show rs = ((rs.map id).mergeSort leR)
    rw [List.map_id, h]
/-- two ascending lists of the same rows, each once, are one -/
theorem asc_eq {rs qs : List (List Str)} (a1 : AscR rs) (a2 : AscR qs) (h1 : rs.Nodup) (h2 : qs.Nodup) (h : ∀ r, r ∈ rs ↔ r ∈ qs) : rs = qs := by
  rw [← ascR_iff.mp a1, ← ascR_iff.mp a2]
  exact sort_eq h1 h2 h
/-- a statement, an expression that is not come to -/
theorem ps_never {X : Cx} {st : Stmt} : PS X st (fun _ _ _ => False) := ⟨fun _ _ _ _ _ _ h => h.elim⟩
theorem pss_never {X : Cx} {sts : List Stmt} : PSs X sts (fun _ _ _ => False) := ⟨fun _ _ _ _ _ _ h => h.elim⟩
theorem pe_never {X : Cx} {e : Expr} : PE X e (fun _ _ _ => False) := ⟨fun _ _ _ _ _ _ h => h.elim⟩
theorem sub_filter : ∀ {o ts : List Str}, o.Sublist ts → ts.Nodup → ts.filter (fun t => decide (t ∈ o)) = o := by
  intro o ts h
  induction h with
  | slnil => exact fun _ => rfl
  | @cons l1 l2 a h ih =>
    intro nd
    obtain ⟨n1, n2⟩ := List.nodup_cons.mp nd
    have no : a ∉ l1 := fun m => n1 (h.subset m)
    rw [List.filter_cons_of_neg (by simpa using no)]
    exact ih n2
  | @cons_cons l1 l2 a h ih =>
    intro nd
    obtain ⟨n1, n2⟩ := List.nodup_cons.mp nd
    rw [List.filter_cons_of_pos (by simp)]
    have e : l2.filter (fun t => decide (t ∈ a :: l1)) = l2.filter (fun t => decide (t ∈ l1)) := by
      refine List.filter_congr fun t m => ?_
      have ne : t ≠ a := fun z => n1 (z ▸ m)
      simp [ne]
    rw [e, ih n2]
/-- closed LOTS, told in another way: from all TILES and the single ones, by the told ones alone -/
theorem meets_base {ts : List Str} {told : List (List Str)} (nd : ts.Nodup) (sub : ∀ r ∈ told, r.Sublist ts) (r : List Str) :
    Meets (told ++ [ts] ++ ts.map fun t => [t]) r ↔ r ≠ [] ∧ ∃ o ∈ [ts] ++ ts.map (fun t => [t]), ∃ A : List (List Str), (∀ a ∈ A, a ∈ told) ∧ r = mets o A := by
  have single : ∀ {A : List (List Str)} {t : Str}, mets [t] A ≠ [] → mets [t] A = [t] := fun {A t} h => by
    rcases sub_one (show (mets [t] A).Sublist [t] from List.filter_sublist) with e | e
    · exact absurd e h
    · exact e
  have inter : ∀ {o : List Str} {A : List (List Str)} {t : Str}, [t] ∈ A → o.Nodup → mets o A ≠ [] → mets o A = [t] := fun {o A t} m nd h => by
    have all : ∀ x ∈ mets o A, x = t := fun x mx => by
      have z := (List.mem_filter.mp mx).2
      rw [List.all_eq_true] at z
      have := of_decide_eq_true (z [t] m)
      simpa using this
    have nd2 : (mets o A).Nodup := nd.sublist List.filter_sublist
    generalize mets o A = l at all nd2 h ⊢
    match l, all, nd2, h with
    | [], _, _, h => exact absurd rfl h
    | [x], all, _, _ => rw [all x List.mem_cons_self]
    | x :: y :: l, all, nd2, _ =>
      have e1 := all x List.mem_cons_self
      have e2 := all y (List.mem_cons_of_mem _ List.mem_cons_self)
      rw [e1, e2] at nd2
      exact absurd nd2 (by simp)
  have part : ∀ {x : List Str}, x ∈ told ++ [ts] ++ ts.map (fun t => [t]) → (x ∈ told ∨ x = ts) ∨ ∃ t ∈ ts, x = [t] := fun {x} m => by
    rcases List.mem_append.mp m with m | m
    · rcases List.mem_append.mp m with m | m
      · exact .inl (.inl m)
      · exact .inl (.inr (List.mem_singleton.mp m))
    · obtain ⟨t, mt, e⟩ := List.mem_map.mp m
      exact .inr ⟨t, mt, e.symm⟩
  constructor
  · rintro ⟨hr, o, ho, A, hA, e⟩
    refine ⟨hr, ?_⟩
    have one : ∀ {t : Str}, t ∈ ts → r = [t] → ∃ o ∈ [ts] ++ ts.map (fun t => [t]), ∃ A : List (List Str), (∀ a ∈ A, a ∈ told) ∧ r = mets o A := fun {t} mt e =>
      ⟨[t], List.mem_append_right _ (List.mem_map.mpr ⟨t, mt, rfl⟩), [], fun _ z => (by cases z), by rw [mets_nil, e]⟩
    rcases part ho with ho | ⟨t, mt, eo⟩
    · have so : o.Sublist ts := by
        rcases ho with m | m
        · exact sub o m
        · rw [m]
          exact List.Sublist.refl _
      rcases Classical.em (∃ t ∈ ts, [t] ∈ A) with ⟨t, mt, mA⟩ | no
      · exact one mt (by rw [e]; exact inter mA (nd.sublist so) (by rw [← e]; exact hr))
      · have hA2 : ∀ a ∈ A, a ∈ told ∨ a = ts := fun a m => by
          rcases part (hA a m) with z | ⟨t, mt, z⟩
          · exact z
          · exact absurd ⟨t, mt, z ▸ m⟩ no
        refine ⟨ts, by simp, (o :: A).filter (fun a => decide (a ∈ told)), fun a m => of_decide_eq_true (List.mem_filter.mp m).2, ?_⟩
        rw [e]
        have eo : mets o A = ts.filter fun t => (A.all fun a => decide (t ∈ a)) && decide (t ∈ o) := by
          unfold mets
          rw [← List.filter_filter, sub_filter so nd]
        rw [eo]
        unfold mets
        refine List.filter_congr fun t mt => ?_
        rw [Bool.eq_iff_iff]
        simp only [Bool.and_eq_true, decide_eq_true_eq, List.all_eq_true, List.mem_filter]
        constructor
        · intro ⟨z2, z1⟩ a ⟨m, _⟩
          rcases List.mem_cons.mp m with w | w
          · rw [w]
            exact z1
          · exact z2 a w
        · intro z
          refine ⟨fun a m => ?_, ?_⟩
          rotate_left
          · rcases ho with m | m
            · exact z o ⟨List.mem_cons_self, m⟩
            · rw [m]
              exact mt
          · rcases hA2 a m with w | w
            · exact z a ⟨List.mem_cons_of_mem _ m, w⟩
            · rw [w]
              exact mt
    · subst eo
      exact one mt (by rw [e]; exact single (by rw [← e]; exact hr))
  · rintro ⟨hr, o, ho, A, hA, e⟩
    refine ⟨hr, o, ?_, A, fun a m => List.mem_append_left _ (List.mem_append_left _ (hA a m)), e⟩
    rcases List.mem_append.mp ho with m | m
    · exact List.mem_append_left _ (List.mem_append_right _ m)
    · exact List.mem_append_right _ m
end Ly

namespace Ly
open PySem PySem.Spec PyProof.Rows L2
/-! set comprehensions, whatever their elements are: o0 tells the empty set, add what adding an element asks and leaves -/
/-- the rule of adding, in any context of the program -/
structure Adds (P : Program) (w : World) (K : PySem.W.Frag) (o0 : Addr → HO) (add : Addr → V → Hp → (Hp → Prop) → Prop) : Prop where
  fresh : ∀ {H : Hp} {h : Heap} {D : Addr}, h.get? D = some (bare w) → ObjOk P w H h D (o0 D)
  step : ∀ {Y : Cx} {pins : List (Addr × Obj)} {σ : L2.St} {H : Hp} {s : Shared} {D : Addr} {y : V} {v : Value} {R : Hp → Prop} {E : Value → Shared → Prop}, Y.prog = P → Y.w = w → Y.K = K → Y.A.units + 64 < cLine → Inv Y pins σ H s → RelV y v → add D y H R →
    wpAny (model P w) Y.A (call (.builtin "set.add") [.ref D, v]) (fun _ s' => ∃ H', Inv Y pins σ H' s' ∧ R H') E s
def tSet (o0 : Addr → HO) (add : Addr → V → Hp → (Hp → Prop) → Prop) (wi : TI) (g : TG) (tt : TT) (te : TE) (vs : List Nat) : TE := fun σ H Q => wi σ H fun J H1 => ∀ D, H1 D = none → ∃ W : Nat → Nat → Hp → Prop, (∃ m, W 0 m (upd H1 D (o0 D))) ∧ ∀ i m H, W i m H →
  (J.stop i H ∧ Q (.ref D) H) ∨ (J.go i H ∧ ∃ Nx : Hp → Prop, (∀ H', Nx H' → ∃ m', m' < m ∧ W (i + 1) m' H') ∧ ∀ x H', J.yld i H x H' → g x (wipe σ vs) H' fun σ2 H2 => wipe σ2 vs = wipe σ vs ∧ tt σ2 H2 fun b H3 => if b = true then te σ2 H3 fun y H4 => add D y H4 Nx else Nx H3)
section
variable {X : Cx}
theorem pe_set {o0 : Addr → HO} {add : Addr → V → Hp → (Hp → Prop) → Prop} (ad : Adds X.prog X.w X.K o0 add) (hu : X.A.units + 64 < cLine) {elt tg iter : Expr} {ifs : List Expr} {scope : Scope} {own : List (Str × Nat)} {pos : Pos} {wi : TI} {g : TG} {tt : TT} {te : TE} (hc : X.calm = true) (hN : X.N.Nodup)
    (hi : PI X tg iter wi) (ok : BlkOk X.N X.env.scope scope own) (hg : ∀ (s : Shared) (H : Hp) (C : Addr) (cl : List (Str × Addr)) (fp : List Addr), PG (X.blk s H scope (compEnvC scope cl C X.env) fp) tg g)
    (ht : ∀ (s : Shared) (H : Hp) (C : Addr) (cl : List (Str × Addr)) (fp : List Addr), PTs (X.blk s H scope (compEnvC scope cl C X.env) fp) ifs tt)
    (he : ∀ (s : Shared) (H : Hp) (C : Addr) (cl : List (Str × Addr)) (fp : List Addr), PE (X.blk s H scope (compEnvC scope cl C X.env) fp) elt te) (hs : ∀ x, foldedSetIterable iter X.env x = pure x := by intro _; rfl) :
    PE X (.SetComp elt [⟨tg, iter, ifs, 0⟩] scope pos) (tSet o0 add wi g tt te (own.map (·.2))) := by
  refine ⟨fun pins s σ H Q I h => ?_⟩
  rw [PpSet.eval_SetComp]
  have cells : ∀ y ∈ scope.names, y.2 = .free → ∃ c, X.env.cells.lookup y.1 = some c := fun y m e => (ok.free y m e).elim (fun z => I.ok.has _ (.inl z)) fun z => I.ok.has _ (.inr z)
  refine wpAny_comprehension_free rfl hs (closure_ok cells) ok.kind (fun y m e => by rw [ok.uniq y m, e]) (thn (hi.run pins s σ H _ I h) fun xv s1 hx => thn hx fun itv s2 hit => ?_)
  obtain ⟨it, fp, tn, J, H2, rfl, I2, T, st2, f2, q⟩ := hit
  refine PpSet.newSet_ok (newEnv_comp ?_)
  generalize hD : s2.heap.objs.size = D
  have free2 : H2 D = none := I2.hok.fresh (Nat.le_of_eq hD)
  obtain ⟨W, ⟨m0, w0⟩, turn⟩ := q D free2
  generalize hs3 : ({ s2 with heap := s2.heap.push (bare X.w) } : Shared) = s3
  have e3 : s3.heap = s2.heap.push (bare X.w) := by rw [← hs3]
  have at3 : s3.heap.get? D = some (bare X.w) := by
    rw [e3, ← hD]
    exact Heap.get?_push_size _ rfl
  have I3 : Inv X pins σ (upd H2 D (o0 D)) s3 := by
    have z := I2.laid (t' := s2.toks) (h' := s3.heap) (a := D) (o := o0 D) (fun b o e => by rw [e3]; exact Heap.get?_push_of_some _ e) (Nat.le_of_eq hD) (ad.fresh at3)
    rw [← hs3] at z ⊢
    exact z
  have below : ∀ b ∈ fp, b < s2.heap.objs.size := fun b m => by
    obtain ⟨o, e, _⟩ := T.obj _ _ st2 b m
    exact Heap.lt_size e
  have f3 : ∀ b ∈ fp, FpOk X pins (upd H2 D (o0 D)) b ∧ b < s3.heap.objs.size := fun b m => by
    have lt := below b m
    refine ⟨⟨?_, (f2 b m).2⟩, by rw [e3, Heap.size_push]; exact Nat.lt_succ_of_lt lt⟩
    rw [upd_ne (by rw [← hD]; exact Nat.ne_of_lt lt)]
    exact (f2 b m).1
  have st3 : tn 0 s3.heap := T.keep _ _ _ st2 fun b _ o e => by
    rw [e3]
    exact Heap.get?_push_of_some _ e
  have I4 := block_start I3 ok hN f3
  have pg := hg s3 (upd H2 D (o0 D)) s3.heap.objs.size (cellsFrom (s3.heap.objs.size + 1) scope.names (cloFrom X.env.cells scope.names [])) fp
  have pt := ht s3 (upd H2 D (o0 D)) s3.heap.objs.size (cellsFrom (s3.heap.objs.size + 1) scope.names (cloFrom X.env.cells scope.names [])) fp
  have pe := he s3 (upd H2 D (o0 D)) s3.heap.objs.size (cellsFrom (s3.heap.objs.size + 1) scope.names (cloFrom X.env.cells scope.names [])) fp
  have none3 : ∀ b ∈ fp, (upd H2 D (o0 D)) b = none := fun b m => (f3 b m).1.1
  have goal : ∀ (ce : Env) (H3 : Hp) (s4 : Shared), ce.locals = s3.heap.objs.size → Inv X pins σ H3 s3 → Inv (X.blk s3 H3 scope ce fp) [] (wipe σ (own.map (·.2))) H3 s4 → tn 0 s4.heap → PG (X.blk s3 H3 scope ce fp) tg g → PTs (X.blk s3 H3 scope ce fp) ifs tt → PE (X.blk s3 H3 scope ce fp) elt te → W 0 m0 H3 →
      (∀ b ∈ fp, H3 b = none) → (∀ b ∈ fp, FpOk X pins H3 b) → codeAny (model X.prog X.w) X.A (.compLoop (.SetComp elt [⟨tg, iter, ifs, 0⟩] scope pos) 0 (.ref it) (.ref D) ce) (compPost (model X.prog X.w) X.A X.xe none (fun v s' => ∃ x H', Inv X pins σ H' s' ∧ RelV x v ∧ Q x H') (.ref D) s3.heap.objs.size) s4 := by
    intro ce H3 s4 cL I3 I4 st4 pg pt pe w0 none3 f3
    have stat : ∀ {σ' : L2.St} {H' : Hp} {s' : Shared}, Inv (X.blk s3 H3 scope ce fp) [] σ' H' s' → (∀ b ∈ fp, H' b = none) → ∀ b ∈ fp, FpOk (X.blk s3 H3 scope ce fp) [] H' b := fun {σ' H' s'} J' hn b m =>
      ⟨hn b m, (J'.ok.exf b m).1, J'.ok.exfs b m, .inl m, fun x c e => (J'.ok.exf b m).2 x c e, fun p hp => absurd (show p ∈ ([] : List (Addr × Obj)) ++ [] from hp) (by simp)⟩
    refine PpSet.compLoopS_any (fun n s' => ∃ i H', Inv (X.blk s3 H3 scope ce fp) [] (wipe σ (own.map (·.2))) H' s' ∧ tn i s'.heap ∧ (∀ b ∈ fp, H' b = none) ∧ W i n H') ?_ m0 ⟨0, H3, I4, st4, none3, w0⟩
    rintro n s5 ⟨i, H5, I5, st5, n5, w5⟩
    rcases turn i n H5 w5 with ⟨stop, qq⟩ | ⟨go, Nx, less, step⟩
    · refine thnF (T.done (X.blk s3 H3 scope ce fp) rfl rfl rfl hc i [] s5 _ H5 (fun _ _ => False) I5 (stat I5 n5) st5 stop) fun r s6 ⟨hr, I6⟩ => ?_
      subst hr
      have I7 : Inv X pins σ H5 s6 := I3.call' (ch := fp) I6.os I6.base I6.hok I6.bare fun b m => ⟨(f3 b m).2.2.2.1, (f3 b m).2.1, (f3 b m).2.2.2.2.1, (f3 b m).2.2.2.2.2⟩
      have nC : H5 s3.heap.objs.size = none := by
        rw [← cL]
        exact I6.free
      obtain ⟨m, hn, _⟩ := I6.loc
      have hn : s6.heap.Ns ce.locals m := hn
      rw [cL] at hn
      refine ⟨m, hn, fun h'' sb => ?_⟩
      obtain ⟨g0, g1, g2, g3, g4, g5⟩ := I3.fpOk (Nat.le_refl _) nC
      exact ⟨.ref D, H5, I7.turned (t' := s6.toks) (fun b o hb e => (sb.2 b hb).trans e) g0 g1 g3 g4 g5, rfl, qq⟩
    · refine thnF (T.item (X.blk s3 H3 scope ce fp) rfl rfl rfl hc i [] s5 _ H5 (fun _ _ => False) I5 (stat I5 n5) st5 go) fun r s6 ⟨u, hr, h6⟩ => ?_
      subst hr
      refine thnF h6 fun _ s7 ⟨x, H7, I7, r7, y7, st7, n7⟩ => ?_
      have I7' := I7.pinned (stat I7 n7) (T.obj _ _ st7)
      refine thnF (pg.run _ s7 _ H7 x u _ I7' r7 (step x H7 y7)) fun _ s8 ⟨σ8, H8, I8, hw8, q8⟩ => ?_
      refine thnF (pt.run _ s8 σ8 H8 _ I8 q8) fun b s9 ⟨H9, I9, q9⟩ => ?_
      have next : ∀ {s' : Shared} {H' : Hp}, Inv (X.blk s3 H3 scope ce fp) ([] ++ pinsAt fp s7.heap) σ8 H' s' → Nx H' → ∃ m, m < n ∧ ∃ i H', Inv (X.blk s3 H3 scope ce fp) [] (wipe σ (own.map (·.2))) H' s' ∧ tn i s'.heap ∧ (∀ b ∈ fp, H' b = none) ∧ W i m H' := fun {s' H'} J' nx => by
        obtain ⟨m', hm, w'⟩ := less H' nx
        have pin : ∀ b ∈ fp, ∀ o, s7.heap.get? b = some o → s'.heap.get? b = some o ∧ H' b = none := fun b m o e => by
          have z := J'.pin (b, o) (List.mem_append_right _ (List.mem_append_right _ (mem_pinsAt m e)))
          exact ⟨z.1, z.2.1⟩
        refine ⟨m', hm, i + 1, H', (J'.unpinned (pins := [])).weak (by rw [← hw8, wipe_length]) (fun j v e => ?_), T.keep _ _ _ st7 fun b m o e => (pin b m o e).1, fun b m => ?_, w'⟩
        · rw [← hw8] at e
          exact (wipe_some e).1
        · obtain ⟨o, e, _⟩ := T.obj _ _ st7 b m
          exact (pin b m o e).2
      cases b with
      | false =>
        simp only [Bool.false_eq_true, if_false] at q9 ⊢
        exact next I9 q9
      | true =>
        simp only [if_true] at q9 ⊢
        refine thnF (pe.run _ s9 σ8 H9 _ I9 q9) fun z s10 ⟨yv, H10, I10, r10, q10⟩ => ?_
        exact thnF (ad.step (Y := X.blk s3 H3 scope ce fp) rfl rfl rfl hu I10 r10 q10) fun _ s11 ⟨H11, I11, q11⟩ => next I11 q11
  show codeAny _ _ (.compStart (.SetComp elt [⟨tg, iter, ifs, 0⟩] scope pos) 0 (.ref it) (.ref D) (compEnvC scope (cellsFrom (s3.heap.objs.size + 1) scope.names (cloFrom X.env.cells scope.names [])) s3.heap.objs.size X.env)) (compPost (model X.prog X.w) X.A X.xe none _ (.ref D) s3.heap.objs.size) { s3 with heap := pushCells (s3.heap.push { cls := .type "dict", data := .dict #[] }) scope.names }
  have st4 : tn 0 (pushCells (s3.heap.push { cls := .type "dict", data := .dict #[] }) scope.names) := T.keep _ _ _ st3 fun b _ o e => pushCells_keeps _ _ _ _ (Heap.get?_push_of_some _ e)
  have loop := goal _ _ _ rfl I3 I4 st4 pg pt pe w0 none3 fun b m => (f3 b m).1
  exact PpSet.codeAny_compStart_set loop (T.self X.A 0 _ _ _ st4 loop)
end
end Ly

namespace Ly
open PySem PySem.Spec PyProof.Rows L2
/-- adding a tuple of texts -/
def addQ (P : Program) (w : World) (K : PySem.W.Frag) : Addr → V → Hp → (Hp → Prop) → Prop := fun D y H R => ∃ (L : List (Addr × List Str)) (a : Addr) (r : List Str), y = .ref a ∧ H D = some (SetQ P w D L) ∧ Tups K H L ∧ SqT K H a (r.map .str) ∧ L.length + 1 < 64 ∧
  ∀ L', (r ∈ L.map (·.2) → L' = L) → (r ∉ L.map (·.2) → L'.Perm ((a, r) :: L)) → R (upd H D (SetQ P w D L'))
theorem add_key {P : Program} {w : World} {A : Around} {E : Value → Shared → Prop} {s : Shared} {α : Type} [DecidableEq α] {κ : HeapKind P w α} (sk : SetKey κ) {D x : Addr} {k : α} {L : List (Addr × α)} {es : Array (Int × Value)} {ep : Nat} {t : SetTable} {Q : Value → Shared → Prop}
    (R : Stands κ s.heap D L es ep t) (hx : κ.is s.heap k x) (hu : κ.room A.in1) (few : L.length + 1 < 64)
    (h : ∀ h' tk L' es' ep' t', Heap.SameBut D s.heap h' → Stands κ h' D L' es' ep' t' → (k ∈ L.map (·.2) → L' = L) → (k ∉ L.map (·.2) → L'.Perm ((x, k) :: L)) → Q .none { s with heap := h', toks := tk }) :
    wpAny (model P w) A (call (.builtin "set.add") [.ref D, .ref x]) Q E s := by
  obtain ⟨o, ho, hex, hd⟩ := R.obj
  have ty : s.TypeIs (.ref D) "set" := ⟨o, ho, hex.1⟩
  refine wpAny_call_entry F.slot_set_add ty F.entry_set_add ?_ (F.args_set_add_2 _ _)
  unfold Builtin.«set.add» Builtin.Frozenset.oneOther
  simp only [List.isEmpty_nil, bind_assoc]
  unfold Builtin.Frozenset.addrOf setAdd
  refine wpAny_bind (wpAny_pure ?_)
  try dsimp only
  refine wpAny_bind (wpAny_pure ?_)
  try dsimp only
  refine wpAny_bind (wpAny_holding (wpAny_bind (κ.pyHash hu hx ?_)))
  refine put_key sk (s := { s with toks := s.toks + κ.draws k }) R hx hu few fun b h' L' es' ep' t' sb R' c1 c2 => ?_
  show wpAny _ _ (ret Value.none) _ _ _
  exact wpAny_pure ⟨_, rfl, h h' _ L' es' ep' t' sb R' c1 c2⟩
theorem adds_tq (P : Program) (w : World) (K : PySem.W.Frag) : Adds P w K (fun D => SetQ P w D []) (addQ P w K) where
  fresh := fun e => setQ_ok (Stands.new (κ := TQ P w) e).b
  step := by
    rintro Y pins σ H s D y v R E rfl rfl rfl hu I rv ⟨L, a, r, rfl, hD, hL, ha, few, q⟩
    cases rv
    obtain ⟨es, ep, t, T⟩ := (show SetB Y.prog Y.w s.heap D L from (I.hok D _ hD).1).stands fun p m => key_tq I (hL p m)
    refine add_key setKey_tq T (key_tq I ha) (by show Y.A.units + 1 < cLine; omega) few fun h' tk L' es' ep' t' sb R' c1 c2 => ?_
    have there : ∃ u, h'.get? D = some u := by
      obtain ⟨o, ho, _⟩ := R'.obj
      exact ⟨o, ho⟩
    exact ⟨_, I.write (e := D) (t' := tk) (by rw [hD]; trivial) (.inl rfl) (fun b u hb hv => (sb.2 b hb).trans hv) there (setQ_ok R'.b), q L' c1 c2⟩
end Ly

namespace Ly
open PySem PySem.Spec PyProof.Rows L2
/-! sets of texts: L the members, in no order that counts -/
def keyX (e : Int × Value) : Str := match e.2 with | .str k _ => k | _ => ⟨#[]⟩
def GoodX (w : World) (e : Int × Value) : Prop := ∃ k u, e.2 = Value.str k u ∧ e.1 = hashStr w k
def SetX (w : World) (h : Heap) (a : Addr) (L : List Str) : Prop :=
  ∃ o es ep t, h.get? a = some o ∧ o.ExactSet ∧ o.data = .set es ep t ∧ (∀ e ∈ es.toList, GoodX w e) ∧ (es.toList.map keyX).Perm L ∧ L.Nodup ∧
    es.size < scanBound ∧ t.fits es.size = true ∧ Ris t.place.toList ∧ (w.params.followText "set-order" = true ∨ t.led = true)
section
variable {P : Program} {w : World} {h h' : Heap} {a : Addr} {L : List Str}
theorem SetX.at (R : SetX w h a L) (k : ∀ o, h.get? a = some o → h'.get? a = some o) : SetX w h' a L := by
  obtain ⟨o, es, ep, t, ho, r⟩ := R
  exact ⟨o, es, ep, t, k o ho, r⟩
theorem is_key {k : Str} {v : Value} (h : (strKind P w).is k v = true) : ∃ u, v = .str k u := by
  cases v with
  | str x t =>
    have z : (strKind P w).is x (.str x t) = true := strKind_is P w x t
    exact ⟨t, by rw [(strKind P w).inj _ _ _ h z]⟩
  | _ => exact absurd h (by simp [PySem.strKind, Value.isStrOf])
theorem goodX_elems {l : List (Int × Value)} (g : ∀ e ∈ l, GoodX w e) : ElemsOf (strKind P w) l := fun e he => by
  obtain ⟨k, u, h1, h2⟩ := g e he
  exact ⟨⟨k, by rw [h1]; exact strKind_is P w k u, h2⟩, by rw [h1] <;> rfl⟩
theorem goodX_is {e : Int × Value} (g : GoodX w e) (k : Str) : (strKind P w).is k e.2 = true ↔ keyX e = k := by
  obtain ⟨k0, u, h1, _⟩ := g
  unfold keyX
  rw [h1]
  constructor
  · intro q
    obtain ⟨u', e⟩ := is_key q
    injection e
  · intro q
    have q : k0 = k := q
    rw [← q]
    exact strKind_is P w k0 u
theorem goodX_mem {l : List (Int × Value)} (g : ∀ e ∈ l, GoodX w e) (k : Str) : k ∈ l.map keyX ↔ ∃ e ∈ l, (strKind P w).is k e.2 = true := by
  rw [List.mem_map]
  constructor
  · rintro ⟨e, he, q⟩
    exact ⟨e, he, (goodX_is (g e he) k).2 q⟩
  · rintro ⟨e, he, q⟩
    exact ⟨e, he, (goodX_is (g e he) k).1 q⟩
end
/-- what adding k leaves -/
def put (L : List Str) (k : Str) : List Str := if k ∈ L then L else k :: L
section
variable {P : Program} {w : World} {A : Around} {E : Value → Shared → Prop} {s : Shared} {a : Addr} {L : List Str}
theorem setX_tail {g : Bool → Sem Unit} (hg : ∀ (b : Bool) (s₁ : Shared) (Q' : Unit → Shared → Prop), Q' () s₁ → wpAny (model P w) A (g b) Q' E s₁)
    {o : Obj} {es : Array (Int × Value)} {ep : Nat} {t : SetTable} (ho : s.heap.get? a = some o) (hex : o.ExactSet) (hd : o.data = .set es ep t)
    {es1 : Array (Int × Value)} {t2 : SetTable} {L' : List Str} (g1 : ∀ e ∈ es1.toList, GoodX w e) (pm1 : (es1.toList.map keyX).Perm L') (nd1 : L'.Nodup)
    (hb1 : es1.size < scanBound) (hf2 : t2.fits es1.size = true) (hr : Ris t2.place.toList) (hl : w.params.followText "set-order" = true ∨ t2.led = true) {wasDummy : Bool} {R : Option Bool → Shared → Prop}
    (hR : ∀ h', Heap.SameBut a s.heap h' → SetX w h' a L' → R (some true) { s with heap := h' }) :
    wpAny (model P w) A (do
        storeSet a es1 t2
        if (!wasDummy && t2.tooFull) = true then do
            g (relayAll t2 es1 (SetTable.grown es1.size)).2.2
            storeSet a (relayAll t2 es1 (SetTable.grown es1.size)).1 (relayAll t2 es1 (SetTable.grown es1.size)).2.1
            pure (some true)
          else pure (some true)) R E s := by
  refine wpAny_bind (wpAny_storeSet_of ho hd ?_ (fits_of_scanBound hb1))
  have ho1 := PpSet.storeB_at (es' := es1) (t' := t2) ho hd
  have sb1 := Heap.SameBut.update s.heap a (Obj.putSet es1 t2)
  split
  · have pm := relayAll_perm t2 es1 (SetTable.grown es1.size)
    have hf3 := relayAll_fits t2 es1 (SetTable.grown es1.size)
    have hr3 := relayAll_ris t2 es1 (SetTable.grown es1.size)
    have hl3 := relayAll_led t2 es1 (SetTable.grown es1.size)
    generalize relayAll t2 es1 (SetTable.grown es1.size) = Z at pm hf3 hr3 hl3 ⊢
    obtain ⟨es2, t3, gave⟩ := Z
    dsimp only at pm hf3 hr3 hl3 ⊢
    have hsz : es2.size = es1.size := by rw [← Array.length_toList, pm.length_eq, Array.length_toList]
    have hb2 : es2.size < scanBound := by rw [hsz]; exact hb1
    refine wpAny_bind (hg _ _ _ ?_)
    refine wpAny_bind (wpAny_storeSet_of ho1 rfl ?_ (fits_of_scanBound hb2))
    have ho2 := PpSet.storeB_at (es' := es2) (t' := t3) ho1 rfl
    refine wpAny_pure (hR _ (sb1.trans (Heap.SameBut.update _ a _)) ?_)
    exact ⟨_, es2, _, t3, ho2, hex, rfl, fun e he => g1 e (pm.mem_iff.mp he), (pm.map keyX).trans pm1, nd1, hb2, hf3, hr3,
      hl.imp id fun z => by rw [hl3]; exact z⟩
  · exact wpAny_pure (hR _ sb1 ⟨_, es1, _, t2, ho1, hex, rfl, g1, pm1, nd1, hb1, hf2, hr, hl⟩)
theorem setX_hashed {k : Str} {u : Tok} {Q : Bool → Shared → Prop} (R : SetX w s.heap a L) (room : L.length + 1 < scanBound)
    (hQ : ∀ b h', Heap.SameBut a s.heap h' → SetX w h' a (put L k) → Q b { s with heap := h' }) :
    wpAny (model P w) A (setAddHashed a (.str k u) ((strKind P w).hash k)) Q E s := by
  obtain ⟨o, es, ep, t, ho, hex, hd, g, pmL, nd, hb, hf, hr, hl⟩ := R
  have hkey : (strKind P w).is k (.str k u) = true := strKind_is P w k u
  have hsc : (Value.str k u).scannable = true := rfl
  have hel : ElemsOf (strKind P w) es.toList := goodX_elems g
  have hn : es.size = L.length := by rw [← pmL.length_eq, List.length_map, Array.length_toList]
  unfold setAddHashed setAddHashedIn
  refine wpAny_holding (wpAny_bind (wpAny_setState_of ho hd hf ?_))
  dsimp only
  rw [byScan_of hsc hb hel]
  simp only [↓reduceIte]
  unfold setAddByScan
  refine wpAny_bind ?_
  refine wpAny_bind (wpAny_rule ?_)
  refine wpAny_bind (wpAny_setScan_of hkey ho hd hf hel ?_)
  cases hfi : List.findIdx? (fun e => (strKind P w).is k e.2) es.toList with
  | some j =>
    dsimp only
    obtain ⟨hj, pj, _⟩ := List.findIdx?_eq_some_iff_getElem.mp hfi
    have hk : k ∈ L := pmL.mem_iff.mp ((goodX_mem (P := P) (w := w) g k).2 ⟨es.toList[j], List.getElem_mem hj, pj⟩)
    refine wpAny_pure (wpAny_pure ?_)
    refine hQ _ s.heap (Heap.SameBut.refl a s.heap) ?_
    rw [put, if_pos hk]
    exact ⟨o, es, ep, t, ho, hex, hd, g, pmL, nd, hb, hf, hr, hl⟩
  | none =>
    dsimp only
    have hnk : k ∉ L := fun z => by
      obtain ⟨e, he, q⟩ := (goodX_mem (P := P) (w := w) g k).1 (pmL.mem_iff.mpr z)
      have c := List.findIdx?_eq_none_iff.mp hfi e he
      rw [q] at c
      cases c
    have hgw : ∀ (b : Bool) {s₁ : Shared} {Q' : Unit → Shared → Prop}, Q' () s₁ → wpAny (model P w) A (match b with | true => rule "set.scan.the-table-gave-way" | false => pure ()) Q' E s₁ :=
      fun b s₁ Q' q => by cases b <;> first | exact wpAny_pure q | exact wpAny_rule q
    have pm := layNew_perm t es ((strKind P w).hash k) (.str k u)
    have hf1 := layNew_fits t es ((strKind P w).hash k) (.str k u)
    have hr1 := layNew_ris t es ((strKind P w).hash k) (.str k u) hr
    have hl1 := layNew_led t es ((strKind P w).hash k) (.str k u)
    generalize layNew t es ((strKind P w).hash k) (.str k u) = Z at pm hf1 hr1 hl1 ⊢
    obtain ⟨es1, t1, wasDummy, gave⟩ := Z
    dsimp only at pm hf1 hr1 hl1 ⊢
    rw [Array.toList_push] at pm
    have pc : es1.toList.Perm (((strKind P w).hash k, Value.str k u) :: es.toList) := pm.trans (List.perm_append_singleton _ _)
    have pk : (es1.toList.map keyX).Perm (k :: L) := (pc.map keyX).trans (pmL.cons k)
    have g1 : ∀ e ∈ es1.toList, GoodX w e := fun e he => by
      rcases List.mem_cons.mp (pc.mem_iff.mp he) with z | z
      · rw [z]; exact ⟨k, u, rfl, rfl⟩
      · exact g e z
    have nd1 : (k :: L).Nodup := List.nodup_cons.mpr ⟨hnk, nd⟩
    have hsz : es1.size = L.length + 1 := by rw [← Array.length_toList, pc.length_eq, List.length_cons, Array.length_toList, hn]
    have hb1 : es1.size < scanBound := by rw [hsz]; exact room
    have hled : w.params.followText "set-order" = true ∨ t1.led = true := hl.imp id fun z => by rw [hl1]; exact z
    have fin : ∀ h', Heap.SameBut a s.heap h' → SetX w h' a (k :: L) → Q true { s with heap := h' } := fun h' sb r => by
      refine hQ true h' sb ?_
      rw [put, if_neg hnk]
      exact r
    refine wpAny_bind (hgw _ ?_)
    split
    · refine wpAny_bind ?_
      rw [hashByValue_scannable 8 hsc]
      refine wpAny_pure ?_
      refine setX_tail ?_ ho hex hd g1 pk nd1 hb1 ?_ ?_ ?_ ?_
      · intro b s₁ Q' q; cases b <;> first | exact wpAny_pure q | exact wpAny_rule q
      · first | (split <;> first | exact hf1 | exact SetTable.fits_plain_off hf1) | exact hf1
      · first | (split <;> exact hr1) | exact hr1
      · first | (split <;> exact hled) | exact hled
      · intro h' sb r; dsimp only; exact wpAny_pure (fin h' sb r)
    · refine wpAny_bind (wpAny_pure ?_)
      simp only [↓reduceIte]
      refine setX_tail ?_ ho hex hd g1 pk nd1 hb1 hf1 hr1 hled ?_
      · intro b s₁ Q' q; cases b <;> first | exact wpAny_pure q | exact wpAny_rule q
      · intro h' sb r; dsimp only; exact wpAny_pure (fin h' sb r)
/-- found.add(k) -/
theorem setX_add {k : Str} {u : Tok} {Q : Value → Shared → Prop} (R : SetX w s.heap a L) (room : L.length + 1 < scanBound)
    (hQ : ∀ h', Heap.SameBut a s.heap h' → SetX w h' a (put L k) → Q .none { s with heap := h', toks := s.toks + 1 }) :
    wpAny (model P w) A (call (.builtin "set.add") [.ref a, .str k u]) Q E s := by
  have ty : s.TypeIs (.ref a) "set" := by
    obtain ⟨o, es, ep, t, ho, hex, _⟩ := id R
    exact ⟨o, ho, hex.1⟩
  refine wpAny_call_entry F.slot_set_add ty F.entry_set_add ?_ (F.args_set_add_2 _ _)
  unfold Builtin.«set.add» Builtin.Frozenset.oneOther
  simp only [List.isEmpty_nil, bind_assoc]
  unfold Builtin.Frozenset.addrOf setAdd
  refine wpAny_bind (wpAny_pure ?_)
  try dsimp only
  refine wpAny_bind (wpAny_pure ?_)
  try dsimp only
  refine wpAny_bind ?_
  refine wpAny_holding ?_
  refine wpAny_bind ((strKind P w).pyHash (strKind_is P w k u) ?_)
  refine setX_hashed (s := { s with toks := s.toks + 1 }) R room fun b h' sb r => ?_
  show wpAny _ _ (ret Value.none) _ _ _
  exact wpAny_pure ⟨_, rfl, hQ h' sb r⟩
theorem setX_fresh {h : Heap} (e : h.get? a = some (bare w)) : SetX w h a [] :=
  ⟨_, #[], 0, _, e, ⟨rfl, rfl, rfl⟩, rfl, (fun e he => by simp at he), .nil, .nil, (by decide), (by rfl), List.Pairwise.nil, by
    show _ ∨ (!w.params.followText "set-order") = true
    cases w.params.followText "set-order"
    · exact .inr rfl
    · exact .inl rfl⟩
end
/-- the set of texts at a -/
def SetXO (w : World) (a : Addr) (L : List Str) : HO := .ext fun h => SetX w h a L
theorem setXO_new {w : World} {P : Program} {H : Hp} {h : Heap} {a : Addr} {L : List Str} (R : SetX w h a L) : ObjOk P w H h a (SetXO w a L) := by
  have ⟨o, _, _, _, ho, _⟩ := R
  exact ⟨R, ⟨o, ho⟩, fun h1 h2 p k => SetX.at p k⟩
/-- adding a text -/
def addX (w : World) : Addr → V → Hp → (Hp → Prop) → Prop := fun D y H R => ∃ (L : List Str) (k : Str), y = .str k ∧ H D = some (SetXO w D L) ∧ L.length + 1 < scanBound ∧ R (upd H D (SetXO w D (put L k)))
theorem adds_tx (P : Program) (w : World) (K : PySem.W.Frag) : Adds P w K (fun D => SetXO w D []) (addX w) where
  fresh := fun e => setXO_new (setX_fresh e)
  step := by
    rintro Y pins σ H s D y v R E rfl rfl rfl hu I rv ⟨L, k, rfl, hD, room, q⟩
    obtain ⟨u, rfl⟩ := rv
    have T : SetX Y.w s.heap D L := (I.hok D _ hD).1
    refine setX_add T room fun h' sb R' => ?_
    have there : ∃ u, h'.get? D = some u := by
      have ⟨o, _, _, _, ho, _⟩ := R'
      exact ⟨o, ho⟩
    exact ⟨_, I.write (e := D) (t' := s.toks + 1) (by rw [hD]; trivial) (.inl rfl) (fun b u hb hv => (sb.2 b hb).trans hv) there (setXO_new R'), q⟩
/-! sorted -/
def leS : Str → Str → Bool := PySem.W.dataLe false PyData.str
theorem alike_S (bs : List Str) : PySem.W.AllAlike (bs.map PyData.str) := PySem.W.AllAlike.of fun p q => by simp [PySem.W.alike]
theorem sortable_S (bs : List Str) : PySem.W.Sortable (bs.map PyData.str) := .inr fun d hd => by
  obtain ⟨q, _, rfl⟩ := List.mem_map.mp hd
  exact ⟨by simp, fun xs e => by cases e⟩
def IsTx (v : Value) (k : Str) : Prop := ∃ u, v = .str k u
theorem each_tx : ∀ {vs : List Value}, (∀ v ∈ vs, ∃ k, IsTx v k) → ∃ ks : List Str, PySem.W.EachIs IsTx vs ks
  | [], _ => ⟨[], .nil⟩
  | v :: vs, h => by
    obtain ⟨k, hk⟩ := h v List.mem_cons_self
    obtain ⟨ks, t⟩ := each_tx fun u m => h u (List.mem_cons_of_mem _ m)
    exact ⟨k :: ks, .cons hk t⟩
theorem tx_vals : ∀ {vs : List Value} {ks : List Str}, PySem.W.EachIs IsTx vs ks → Vals (ks.map V.str) vs
  | _, _, .nil => .nil
  | _, _, .cons h t => .cons h (tx_vals t)
theorem tx_keys {w : World} : ∀ {es : List (Int × Value)}, (∀ e ∈ es, GoodX w e) → PySem.W.EachIs IsTx (es.map (·.2)) (es.map keyX)
  | [], _ => .nil
  | e :: es, g => by
    obtain ⟨k, u, h1, _⟩ := g e List.mem_cons_self
    refine .cons ⟨u, ?_⟩ (tx_keys fun f m => g f (List.mem_cons_of_mem _ m))
    show e.2 = .str (keyX e) u
    simp only [keyX, h1]
theorem tx_perm {vs vs' : List Value} (p : vs.Perm vs') : ∀ {ks : List Str}, PySem.W.EachIs IsTx vs ks → ∃ ks', PySem.W.EachIs IsTx vs' ks' ∧ ks.Perm ks' := by
  induction p with
  | nil => intro ks h; exact ⟨ks, h, .refl _⟩
  | cons x _ ih =>
    intro ks h
    cases h with
    | cons h1 h2 =>
      obtain ⟨ks', a, b⟩ := ih h2
      exact ⟨_, .cons h1 a, b.cons _⟩
  | swap x y l =>
    intro ks h
    cases h with
    | cons h1 h2 =>
      cases h2 with
      | cons h2 h3 => exact ⟨_, .cons h2 (.cons h1 h3), .swap _ _ _⟩
  | trans _ _ ih1 ih2 =>
    intro ks h
    obtain ⟨k1, a1, p1⟩ := ih1 h
    obtain ⟨k2, a2, p2⟩ := ih2 a1
    exact ⟨k2, a2, p1.trans p2⟩
theorem tx_reads {h : Heap} {a : Addr} : ∀ {vs : List Value} {ks : List Str}, PySem.W.EachIs IsTx vs ks → PySem.W.EachIs (fun v k => ∃ as, Reads h v (PyData.str k) as ∧ a ∉ as) vs ks
  | _, _, .nil => .nil
  | _, _, .cons ⟨u, e⟩ t => .cons ⟨[], by rw [e]; exact Reads.str _ u, by simp⟩ (tx_reads t)
section
variable {X : Cx}
/-- sorted(a set of texts) -/
def rSortX (w : World) : List V → Hp → VK → Prop := fun vs H Q => ∃ (a : Addr) (L : List Str), vs = [V.ref a] ∧ H a = some (SetXO w a L) ∧
  ∀ (L' : List Str) (p : Addr), L'.Perm L → L.Nodup → H p = none → Q (.ref p) (upd H p (.lst ((L'.mergeSort leS).map V.str)))
theorem call_sortX (hc : X.calm = true) (hu : X.A.units + 64 < cLine) : CallR X (.builtin "sorted") (rSortX X.w) := by
  intro pins s σ H vs us Q I r h
  obtain ⟨a, L, rfl, ha, q⟩ := h
  rw [Vals.ref1 r]
  obtain ⟨o, es, ep, t, ho, hex, hd, g, pmL, nd, hb, hf, hr, hl⟩ := (show SetX X.w s.heap a L from (I.hok a _ ha).1)
  refine Calls.call_function_entry kind_sorted plain_sorted entry_sorted (args_sorted1 _) ?_
  unfold Builtin.«sorted»
  refine wpAny_bind (m := checkCount "sorted" 1 1 _) (wpAny_pure ?_)
  refine wpAny_bind (collect_set (A := X.A.in1) (I.ok.hd hc) ⟨o, ho, hex.1, hd⟩ hf hb hr hl fun s1 vs k1 hz g1 o1 pm => ?_)
  obtain ⟨L1, ev, p1⟩ := tx_perm pm.symm (tx_keys g)
  have pL : L1.Perm L := p1.symm.trans pmL
  have lenv : vs.length = L1.length := ev.length
  have lenE : L1.length < scanBound := by
    rw [pL.length_eq, ← pmL.length_eq, List.length_map, Array.length_toList]
    exact hb
  have lenz : L1.length ≤ sizeLine := by
    rw [sizeLine_eq]
    unfold scanBound at lenE
    omega
  refine wpAny_bind (wpAny_newList ?_ (by rw [lenv]; exact lenz))
  have hoL : (s1.heap.push (seqObj "list" vs.toArray 0)).get? s1.heap.objs.size = some (seqObj "list" vs.toArray 0) := Heap.get?_push_size _ rfl
  refine wpAny_bind (wpAny_holding (PySem.W.list_sort_data (s := { s1 with heap := s1.heap.push (seqObj "list" vs.toArray 0) }) (vs := vs) (bs := L1) (enc := PyData.str) (R := IsTx) hoL
    ev (tx_reads ev) (alike_S L1) (sortable_S L1) lenz (fun p _ => by show X.A.units + 1 + 1 + (PyData.str p).depth < cLine; rw [PyData.depth]; omega) fun out ho2 ee => ?_))
  obtain ⟨c, hcL⟩ := sortedHeap_at (vs := vs) (out := out.toArray) hoL
  have k2 : ∀ b u, s.heap.get? b = some u → (sortedHeap (s1.heap.push (seqObj "list" vs.toArray 0)) s1.heap.objs.size vs out.toArray).get? b = some u := fun b u e => by
    have e2 := k1 b u e
    have lt := Heap.lt_size e2
    rw [sortedHeap_old (Nat.ne_of_lt lt) (by rw [size_push']; exact Nat.lt_succ_of_lt lt)]
    exact Heap.get?_push_of_some _ e2
  have hn : H s1.heap.objs.size = none := I.hok.fresh hz
  have lenS : ((L1.mergeSort leS).map V.str).length ≤ sizeLine := by
    rw [List.length_map, List.length_mergeSort]
    exact lenz
  refine wpAny_pure ⟨_, rfl, .ref s1.heap.objs.size, upd H s1.heap.objs.size (.lst ((L1.mergeSort leS).map V.str)), I.call' (ch := []) o1 (Un.laid k2 hz hn) (I.hok.laid k2 hz ⟨lenS, _, c, tx_vals ee, hcL⟩) (by
    show AllBare s1.gens
    rw [g1]
    exact I.bare) (fun _ z => nomatch z), rfl, q L1 _ pL nd hn⟩
end
end Ly

namespace Ly
open PySem PySem.Spec PyProof.Rows L2
/-- a set comprehension over a tuple that the block leaves as it is: Pv n H, what holds behind n turns -/
theorem set_tup {K : PySem.W.Frag} {o0 : Addr → HO} {add : Addr → V → Hp → (Hp → Prop) → Prop} {a : Addr} {xs : List V} {g : TG} {tt : TT} {te : TE} {vs : List Nat} {σ : L2.St} {H1 : Hp} {D : Addr} {Qd : Hp → Prop} (Pv : Nat → Hp → Prop) (h0 : Pv 0 (upd H1 D (o0 D)))
    (hl : ∀ i H, i ≤ xs.length → Pv i H → SqT K H a xs)
    (hs : ∀ i x H, xs[i]? = some x → Pv i H → g x (wipe σ vs) H fun σ2 H2 => wipe σ2 vs = wipe σ vs ∧ tt σ2 H2 fun b H3 => if b = true then te σ2 H3 fun y H4 => add D y H4 (Pv (i + 1)) else Pv (i + 1) H3) (hd : ∀ H, Pv xs.length H → Qd H) :
    ∃ W : Nat → Nat → Hp → Prop, (∃ m, W 0 m (upd H1 D (o0 D))) ∧ ∀ i m H, W i m H →
      ((Itt K a).stop i H ∧ Qd H) ∨ ((Itt K a).go i H ∧ ∃ Nx : Hp → Prop, (∀ H', Nx H' → ∃ m', m' < m ∧ W (i + 1) m' H') ∧ ∀ x H', (Itt K a).yld i H x H' → g x (wipe σ vs) H' fun σ2 H2 => wipe σ2 vs = wipe σ vs ∧ tt σ2 H2 fun b H3 =>
        if b = true then te σ2 H3 fun y H4 => add D y H4 Nx else Nx H3) := by
  refine ⟨fun i m H => m = xs.length - i ∧ i ≤ xs.length ∧ Pv i H, ⟨xs.length, by simp, Nat.zero_le _, h0⟩, ?_⟩
  rintro i m H ⟨rfl, hi, p⟩
  have q := hl i H hi p
  by_cases hlt : i < xs.length
  · refine .inr ⟨⟨xs, xs[i], q, by simp [hlt]⟩, Pv (i + 1), fun H' p' => ⟨xs.length - (i + 1), by omega, rfl, hlt, p'⟩, fun x H' y => ?_⟩
    obtain ⟨e, y⟩ := y
    subst e
    exact hs i x _ (y xs q) p
  · have e : i = xs.length := by omega
    subst e
    exact .inl ⟨⟨xs, q, Nat.le_refl _⟩, hd H p⟩
/-- a set comprehension over a list that the block leaves as it is: Pv n H, what holds behind n turns -/
theorem set_list {K : PySem.W.Frag} {o0 : Addr → HO} {add : Addr → V → Hp → (Hp → Prop) → Prop} {a : Addr} {xs : List V} {g : TG} {tt : TT} {te : TE} {vs : List Nat} {σ : L2.St} {H1 : Hp} {D : Addr} {Qd : Hp → Prop} (Pv : Nat → Hp → Prop) (h0 : Pv 0 (upd H1 D (o0 D)))
    (hl : ∀ i H, i ≤ xs.length → Pv i H → SqL K H a xs)
    (hs : ∀ i x H, xs[i]? = some x → Pv i H → g x (wipe σ vs) H fun σ2 H2 => wipe σ2 vs = wipe σ vs ∧ tt σ2 H2 fun b H3 => if b = true then te σ2 H3 fun y H4 => add D y H4 (Pv (i + 1)) else Pv (i + 1) H3) (hd : ∀ H, Pv xs.length H → Qd H) :
    ∃ W : Nat → Nat → Hp → Prop, (∃ m, W 0 m (upd H1 D (o0 D))) ∧ ∀ i m H, W i m H →
      ((Itl K a).stop i H ∧ Qd H) ∨ ((Itl K a).go i H ∧ ∃ Nx : Hp → Prop, (∀ H', Nx H' → ∃ m', m' < m ∧ W (i + 1) m' H') ∧ ∀ x H', (Itl K a).yld i H x H' → g x (wipe σ vs) H' fun σ2 H2 => wipe σ2 vs = wipe σ vs ∧ tt σ2 H2 fun b H3 =>
        if b = true then te σ2 H3 fun y H4 => add D y H4 Nx else Nx H3) := by
  refine ⟨fun i m H => m = xs.length - i ∧ i ≤ xs.length ∧ Pv i H, ⟨xs.length, by simp, Nat.zero_le _, h0⟩, ?_⟩
  rintro i m H ⟨rfl, hi, p⟩
  have q := hl i H hi p
  by_cases hlt : i < xs.length
  · refine .inr ⟨⟨xs, xs[i], q, by simp [hlt]⟩, Pv (i + 1), fun H' p' => ⟨xs.length - (i + 1), by omega, rfl, hlt, p'⟩, fun x H' y => ?_⟩
    obtain ⟨e, y⟩ := y
    subst e
    exact hs i x _ (y xs q) p
  · have e : i = xs.length := by omega
    subst e
    exact .inl ⟨⟨xs, q, Nat.le_refl _⟩, hd H p⟩
end Ly

namespace Ly
open PySem PySem.Spec PyProof.Rows L2
/-! a tuple whose object is known wholly (dict() asks that it has no dict of its own) -/
def Plt (H : Hp) (a : Addr) (xs : List V) : Prop := ∃ o, H a = some (.frz o (.tup xs)) ∧ o.cls = .type "tuple" ∧ o.dict = none
theorem Plt.sq {K : PySem.W.Frag} {H : Hp} {a : Addr} {xs : List V} (h : Plt H a xs) : SqT K H a xs := by
  obtain ⟨o, e, _⟩ := h
  exact .inl (.inr ⟨o, e⟩)
section
variable {X : Cx}
/-- tuple(a list): the new object is known -/
theorem call_tuplePl : CallR X (.type "tuple") (fun vs H Q => ∃ p ys, vs = [V.ref p] ∧ SqL X.K H p ys ∧ ∀ l o, H l = none → o.cls = .type "tuple" → o.dict = none → Q (.ref l) (upd H l (.frz o (.tup ys)))) := by
  intro pins s σ H xs us Q I r h
  obtain ⟨p, ys, rfl, hq, q⟩ := h
  rw [Vals.ref1 r]
  obtain ⟨its, r', pl, hz⟩ := I.list hq
  have hlen := r'.length
  refine call_tuple_list pl.isList (fun h' kp => ?_) (by simp only [List.size_toArray] <;> omega)
  have I1 : Inv X pins σ H { s with heap := h' } := I.kept (t' := s.toks) kp
  have I2 : Inv X pins σ (upd H h'.objs.size (.frz { cls := .type "tuple", data := .seq its.toArray } (.tup ys))) { s with heap := h'.push { cls := .type "tuple", data := .seq its.toArray } } :=
    I1.laid (t' := s.toks) (fun b o e => Heap.get?_push_of_some _ e) (Nat.le_refl _) (show ObjOk X.prog X.w _ _ _ (.frz _ (.tup ys)) from ⟨Heap.get?_push_size _ rfl, hz, its, r', IsTup.new _ _⟩)
  exact ⟨.ref h'.objs.size, _, I2, rfl, q _ _ (I1.hok.fresh (Nat.le_refl _)) rfl rfl⟩
/-- a list or such a tuple -/
def SqP (K : PySem.W.Frag) (H : Hp) (a : Addr) (xs : List V) : Prop := SqL K H a xs ∨ Plt H a xs
theorem sqp_plain {pins : List (Addr × Obj)} {σ : L2.St} {H : Hp} {s : Shared} {a : Addr} {xs : List V} (I : Inv X pins σ H s) (h : SqP X.K H a xs) : ∃ its : List Value, Vals xs its ∧ (PlainSeq "list" s.heap a its.toArray ∨ PlainSeq "tuple" s.heap a its.toArray) ∧ xs.length ≤ sizeLine := by
  rcases h with h | ⟨o, e, hc, hd⟩
  · obtain ⟨its, r, ⟨o, n, ho, h1, h2, h3⟩, z⟩ := I.list h
    exact ⟨its, r, .inl ⟨o, n, ho, h1, h2, h3⟩, z⟩
  · obtain ⟨ho, z, its, r, o', ho', hc', n, hd'⟩ := (show ObjOk X.prog X.w H s.heap a (.frz o (.tup xs)) from I.hok a _ e)
    have eo : o = o' := Option.some.inj (ho.symm.trans ho')
    subst eo
    exact ⟨its, r, .inr ⟨o, n, ho, hc, hd, hd'⟩, z⟩
/-- the pairs of dict(xs): each a tuple of two, at the addresses rs -/
def Prs (K : PySem.W.Frag) (H : Hp) (rs : List (Addr × V × V)) : Prop := ∀ q ∈ rs, SqT K H q.1 [q.2.1, q.2.2]
theorem prs_items {pins : List (Addr × Obj)} {σ : L2.St} {H : Hp} {s : Shared} (I : Inv X pins σ H s) : ∀ (rs : List (Addr × V × V)), Prs X.K H rs → ∃ ps : List (Value × Value), ps.length = rs.length ∧ (∀ (i : Nat) (q : Addr × V × V), rs[i]? = some q → ∃ p, ps[i]? = some p ∧ RelV q.2.1 p.1 ∧ RelV q.2.2 p.2 ∧ PairAt s.heap q.1 p.1 p.2)
  | [], _ => ⟨[], rfl, fun i q e => by simp at e⟩
  | q :: rs, h => by
    obtain ⟨ps, len, each⟩ := prs_items I rs fun r m => h r (List.mem_cons_of_mem _ m)
    obtain ⟨its, r, p, _⟩ := I.tuple (h q List.mem_cons_self)
    cases r with
    | cons r1 r2 =>
      cases r2 with
      | cons r2 r3 =>
        cases r3
        rename_i k v
        refine ⟨(k, v) :: ps, by simp [len], fun i r e => ?_⟩
        cases i with
        | zero =>
          have e : q = r := by simpa using e
          subst e
          obtain ⟨o, ho, hc, n, hd⟩ := p
          exact ⟨(k, v), rfl, r1, r2, .inl ⟨o, ho, hc, n, hd⟩⟩
        | succ i => exact each i r (by simpa using e)
theorem prs_pi {pins : List (Addr × Obj)} {σ : L2.St} {H : Hp} {s : Shared} (I : Inv X pins σ H s) {rs : List (Addr × V × V)} (h : Prs X.K H rs) {its : List Value} (rv : Vals (refsOf rs) its) :
    ∃ (ps : List (Value × Value)) (Ts : Nat → Addr), ps.length = rs.length ∧ (∀ (i : Nat) (q : Addr × V × V), rs[i]? = some q → ∃ p, ps[i]? = some p ∧ RelV q.2.1 p.1 ∧ RelV q.2.2 p.2) ∧ PairItems s.heap its.toArray Ts ps := by
  obtain ⟨ps, len, each⟩ := prs_items I rs h
  have ei := refs_are rv
  subst ei
  refine ⟨ps, fun i => ((rs[i]?).map (·.1)).getD 0, len, fun i q e => ?_, ?_, fun j k v e => ?_⟩
  · obtain ⟨p, a, b, c, _⟩ := each i q e
    exact ⟨p, a, b, c⟩
  · simp [len]
  · have lt : j < rs.length := by
      rw [← len]
      exact (List.getElem?_eq_some_iff.mp e).1
    obtain ⟨p, a, _, _, d⟩ := each j rs[j] (List.getElem?_eq_getElem lt)
    rw [e] at a
    cases a
    refine ⟨?_, ?_⟩
    · simp [List.getElem?_eq_getElem lt]
    · show PairAt s.heap (((rs[j]?).map (·.1)).getD 0) k v
      rw [List.getElem?_eq_getElem lt]
      exact d
/-- the entries of such pairs -/
theorem kv_of_pairs {P : Program} {w : World} : ∀ {kvs : List (Key × V)} {ps : List (Value × Value)}, ps.length = kvs.length → (∀ (i : Nat) (q : Key × V), kvs[i]? = some q → ∃ p, ps[i]? = some p ∧ RelV (kV q.1) p.1 ∧ RelV q.2 p.2) → ∃ rs : List (Key × Value), KV kvs rs ∧ PairsHave (mixKind P w) ps.length (PairRel ps) rs
  | [], ps, len, _ => by
    have e : ps = [] := List.eq_nil_of_length_eq_zero len
    subst e
    exact ⟨[], .nil, rfl, fun i k v e => by simp [PairRel] at e⟩
  | q :: kvs, [], len, _ => by simp at len
  | q :: kvs, p :: ps, len, h => by
    obtain ⟨rs, r1, r2, r3⟩ := kv_of_pairs (P := P) (w := w) (kvs := kvs) (ps := ps) (by simpa using len) fun i r e => by
      obtain ⟨p', a, b⟩ := h (i + 1) r (by simpa using e)
      exact ⟨p', by simpa using a, b⟩
    obtain ⟨p', a, b, c⟩ := h 0 q rfl
    have e : p = p' := by simpa using a
    subst e
    refine ⟨(q.1, p.2) :: rs, .cons ⟨rfl, c⟩ r1, by simp [r2], fun i k v e => ?_⟩
    cases i with
    | zero =>
      have e : p = (k, v) := by simpa [PairRel] using e
      subst e
      exact ⟨q.1, rfl, kV_is b⟩
    | succ i => exact r3 i k v (by simpa [PairRel] using e)
/-- dict(xs), xs a list of pairs or such a tuple; the keys texts or ints -/
def rDictK (K : PySem.W.Frag) : List V → Hp → VK → Prop := fun vs H Q => ∃ (a : Addr) (as : List Addr) (kvs : List (Key × V)), vs = [V.ref a] ∧ as.length = kvs.length ∧ SqP K H a (as.map V.ref) ∧ (∀ (i : Nat) (b : Addr) (q : Key × V), as[i]? = some b → kvs[i]? = some q → SqT K H b [kV q.1, q.2]) ∧
  ∀ p, H p = none → Q (.ref p) (upd H p (.dK (mergeK [] kvs)))
theorem call_dictK (hc : X.calm = true) : CallR X (.type "dict") (rDictK X.K) := by
  intro pins s σ H vs us Q I r h
  obtain ⟨a, as, kvs, rfl, len, hs, hp, q⟩ := h
  rw [Vals.ref1 r]
  obtain ⟨its, rv, pl, hz⟩ := sqp_plain I hs
  have er : as.map V.ref = refsOf ((as.zip kvs).map fun z => (z.1, kV z.2.1, z.2.2)) := by
    rw [refsOf, List.map_map]
    show as.map V.ref = (as.zip kvs).map (V.ref ∘ Prod.fst)
    rw [← List.map_map, List.map_fst_zip (by omega)]
  rw [er] at rv
  have P0 : Prs X.K H ((as.zip kvs).map fun z => (z.1, kV z.2.1, z.2.2)) := fun t m => by
    obtain ⟨z, hz, rfl⟩ := List.mem_map.mp m
    obtain ⟨i, lt, ei⟩ := List.getElem_of_mem hz
    have e2 : (as.zip kvs)[i]? = some z := List.getElem?_eq_some_iff.mpr ⟨lt, ei⟩
    obtain ⟨e3, e4⟩ := List.getElem?_zip_eq_some.mp e2
    exact hp i z.1 z.2 e3 e4
  obtain ⟨ps, Ts, lp, each, items⟩ := prs_pi I P0 rv
  have lp2 : ps.length = kvs.length := by
    rw [lp, List.length_map, List.length_zip, len, Nat.min_self]
  obtain ⟨rs, k1, k2⟩ := kv_of_pairs (P := X.prog) (w := X.w) lp2 fun i t e => by
    have lt : i < as.length := by
      rw [len]
      exact (List.getElem?_eq_some_iff.mp e).1
    have e2 : ((as.zip kvs).map fun z => (z.1, kV z.2.1, z.2.2))[i]? = some (as[i], kV t.1, t.2) := by
      have e3 : (as.zip kvs)[i]? = some (as[i], t) := List.getElem?_zip_eq_some.mpr ⟨List.getElem?_eq_getElem lt, e⟩
      rw [List.getElem?_map, e3]
      rfl
    exact each i _ e2
  have hz2 : ps.length ≤ sizeLine := by
    rw [lp2, ← len]
    simpa using hz
  have notSys : (s.heap.objs.size == sysModules) = false := by
    have z := I.big
    exact beq_false_of_ne (Nat.ne_of_gt z)
  have fin : ∀ (h' : Heap) (tk : Nat), h'.DictOf (mixKind X.prog X.w) s.heap.objs.size (merged [] rs) → (∀ b o, b ∉ ([] : List Addr) → s.heap.get? b = some o → h'.get? b = some o) → ∃ x H', Inv X pins σ H' { s with heap := h', toks := tk } ∧ RelV x (.ref s.heap.objs.size) ∧ Q x H' := fun h' tk d k => by
    refine ⟨.ref s.heap.objs.size, upd H s.heap.objs.size (.dK (mergeK [] kvs)), I.laid (t' := tk) (fun b u e => k b u (by simp) e) (Nat.le_refl _) (dk_new ?_ notSys (k1.merge .nil) d), rfl, q _ (I.hok.fresh (Nat.le_refl _))⟩
    have z := length_mergeK kvs []
    rw [← lp2] at z
    exact Nat.le_trans z (by simpa using hz2)
  rcases pl with pl | pl
  · exact call_dict_pairs (knd := mixKind X.prog X.w) (kvs := rs) (PairArg.list a its.toArray Ts ps) (I.ok.hd hc) ⟨pl, items⟩ k2 hz2 fin
  · exact call_dict_pairs (knd := mixKind X.prog X.w) (kvs := rs) (PairArg.tuple a its.toArray Ts ps) (I.ok.hd hc) ⟨pl, items⟩ k2 hz2 fin
end
end Ly

namespace Ly
open PySem PySem.Spec PyProof.Rows L2
/-! dicts whose keys are tuples of texts: L the keys with their addresses; what the values are is not told -/
section
variable {K : Type} [DecidableEq K]
theorem keys_putAt (k : K) (v : Value) (xs : List (K × Addr × Value)) : (xs.map (putAt k v)).map (·.1) = xs.map (·.1) := by
  rw [List.map_map]
  refine List.map_congr_left fun x _ => ?_
  show (putAt k v x).1 = x.1
  unfold putAt
  split <;> rfl
theorem atKey_mem {xs : List (K × Addr × Value)} {k : K} : (atKey xs k).isSome = decide (k ∈ xs.map (·.1)) := by
  unfold atKey
  rw [Option.isSome_map]
  cases h : xs.find? fun x => decide (x.1 = k) with
  | some x =>
    have h1 := List.find?_some h
    have h2 := List.mem_of_find?_eq_some h
    rw [Option.isSome_some]
    refine (decide_eq_true ?_).symm
    rw [← of_decide_eq_true h1]
    exact List.mem_map_of_mem h2
  | none =>
    rw [Option.isSome_none]
    refine (decide_eq_false fun m => ?_).symm
    obtain ⟨x, hx, e⟩ := List.mem_map.mp m
    have z := List.find?_eq_none.mp h x hx
    exact z (decide_eq_true e)
theorem keys_stored (xs : List (K × Addr × Value)) (k : K) (a : Addr) (v : Value) (j : K) : j ∈ (storedH xs k a v).map (·.1) ↔ j ∈ xs.map (·.1) ∨ j = k := by
  unfold storedH
  split
  · rename_i c
    rw [keys_putAt]
    rw [atKey_mem] at c
    have c := of_decide_eq_true c
    exact ⟨.inl, fun z => z.elim id fun e => e ▸ c⟩
  · rw [List.map_append, List.mem_append]
    simp
theorem keys_all : ∀ (ps xs : List (K × Addr × Value)) (j : K), j ∈ (storedAllH xs ps).map (·.1) ↔ j ∈ xs.map (·.1) ∨ j ∈ ps.map (·.1)
  | [], xs, j => by simp [storedAllH]
  | p :: ps, xs, j => by
    show j ∈ (storedAllH (storedH xs p.1 p.2.1 p.2.2) ps).map (·.1) ↔ _
    rw [keys_all ps, keys_stored, List.map_cons, List.mem_cons, or_assoc]
end
def DictB (P : Program) (w : World) (h : Heap) (a : Addr) (L : List (Addr × List Str)) : Prop := (a == sysModules) = false ∧
  ∃ xs : List (List Str × Addr × Value), xs.map (fun x => (x.2.1, x.1)) = L ∧ ∃ o es ep, h.get? a = some o ∧ o.ExactDict ∧ o.data = .dict es ep ∧ es.toList = xs.map (entryOfKey (TQ P w)) ∧ (xs.map (·.1)).Nodup
def DictQ (P : Program) (w : World) (a : Addr) (L : List (Addr × List Str)) : HO := .ext fun h => DictB P w h a L
theorem dictQ_ok {P : Program} {w : World} {H : Hp} {h : Heap} {a : Addr} {L : List (Addr × List Str)} (R : DictB P w h a L) : ObjOk P w H h a (DictQ P w a L) := by
  refine ⟨R, ?_, fun h1 h2 p k => ?_⟩
  · obtain ⟨_, xs, _, o, es, ep, ho, _⟩ := R
    exact ⟨o, ho⟩
  · have ⟨e, xs, e2, o, es, ep, ho, r⟩ := (show DictB P w h1 a L from p)
    exact ⟨e, xs, e2, o, es, ep, k o ho, r⟩
section
variable {X : Cx}
/-- the entries, as dict() reads them -/
theorem kt_of_pairs {P : Program} {w : World} : ∀ {rs : List (Addr × (Addr × List Str) × V)} {ps : List (Value × Value)}, ps.length = rs.length →
    (∀ (i : Nat) (q : Addr × (Addr × List Str) × V), rs[i]? = some q → ∃ p, ps[i]? = some p ∧ RelV (.ref q.2.1.1) p.1 ∧ RelV q.2.2 p.2) →
    ∃ ts : List (List Str × Addr × Value), ts.map (fun x => (x.2.1, x.1)) = rs.map (·.2.1) ∧ PairsHaveH (TQ P w) ps.length (PairRel ps) ts
  | [], ps, len, _ => by
    have e : ps = [] := List.eq_nil_of_length_eq_zero len
    subst e
    exact ⟨[], rfl, rfl, fun i k v e => by simp [PairRel] at e⟩
  | q :: rs, [], len, _ => by simp at len
  | q :: rs, p :: ps, len, h => by
    obtain ⟨ts, r1, r2, r3⟩ := kt_of_pairs (P := P) (w := w) (rs := rs) (ps := ps) (by simpa using len) fun i r e => by
      obtain ⟨p', a, b⟩ := h (i + 1) r (by simpa using e)
      exact ⟨p', by simpa using a, b⟩
    obtain ⟨p', a, b, c⟩ := h 0 q rfl
    have e : p = p' := by simpa using a
    subst e
    have b : p.1 = .ref q.2.1.1 := b
    refine ⟨(q.2.1.2, q.2.1.1, p.2) :: ts, by rw [List.map_cons, List.map_cons, r1], by simp [r2], fun i k v e => ?_⟩
    cases i with
    | zero =>
      have e : p = (k, v) := by simpa [PairRel] using e
      subst e
      exact ⟨q.2.1.2, q.2.1.1, rfl, b⟩
    | succ i => exact r3 i k v (by simpa [PairRel] using e)
/-- dict(xs), xs a list of pairs, each a tuple of texts and a value -/
def rDictT (K : PySem.W.Frag) (P : Program) (w : World) : List V → Hp → VK → Prop := fun vs H Q => ∃ (a : Addr) (rs : List (Addr × (Addr × List Str) × V)), vs = [V.ref a] ∧ SqP K H a (rs.map fun z => V.ref z.1) ∧ (∀ z ∈ rs, SqT K H z.1 [.ref z.2.1.1, z.2.2]) ∧ Tups K H (rs.map (·.2.1)) ∧
  ∀ p L, H p = none → (∀ q ∈ L, q ∈ rs.map (·.2.1)) → (∀ k, k ∈ L.map (·.2) ↔ k ∈ rs.map (·.2.1.2)) → Q (.ref p) (upd H p (DictQ P w p L))
theorem call_dictT (hc : X.calm = true) (hu : X.A.units + 64 < cLine) : CallR X (.type "dict") (rDictT X.K X.prog X.w) := by
  intro pins s σ H vs us Q I r h
  obtain ⟨a, rs, rfl, hs, hp, hk, q⟩ := h
  rw [Vals.ref1 r]
  obtain ⟨its, rv, pl, hz⟩ := sqp_plain I hs
  have er : (rs.map fun z => V.ref z.1) = refsOf (rs.map fun z => (z.1, V.ref z.2.1.1, z.2.2)) := by
    rw [refsOf, List.map_map]
    rfl
  rw [er] at rv
  have P0 : Prs X.K H (rs.map fun z => (z.1, V.ref z.2.1.1, z.2.2)) := fun t m => by
    obtain ⟨z, hz, rfl⟩ := List.mem_map.mp m
    exact hp z hz
  obtain ⟨ps, Ts, lp, each, items⟩ := prs_pi I P0 rv
  rw [List.length_map] at lp
  obtain ⟨ts, k1, k2⟩ := kt_of_pairs (P := X.prog) (w := X.w) lp fun i t e => each i (t.1, V.ref t.2.1.1, t.2.2) (by rw [List.getElem?_map, e]; rfl)
  have hz2 : ps.length ≤ sizeLine := by
    rw [lp]
    simpa using hz
  have inTs : ∀ x ∈ ts, (x.2.1, x.1) ∈ rs.map (·.2.1) := fun x hx => by
    rw [← k1]
    exact List.mem_map_of_mem (f := fun x : List Str × Addr × Value => (x.2.1, x.1)) hx
  have keyIs : ∀ x ∈ ts, (TQ X.prog X.w).is s.heap x.1 x.2.1 := fun x hx => key_tq I (hk _ (inTs x hx))
  have notSys : (s.heap.objs.size == sysModules) = false := by
    have z := I.big
    exact beq_false_of_ne (Nat.ne_of_gt z)
  have fin : ∀ (h' : Heap) (tk : Nat), h'.DictOfH (TQ X.prog X.w) s.heap.objs.size (storedAllH [] ts) → (∀ b o, b ∉ ([] : List Addr) → s.heap.get? b = some o → h'.get? b = some o) → ∃ x H', Inv X pins σ H' { s with heap := h', toks := tk } ∧ RelV x (.ref s.heap.objs.size) ∧ Q x H' := fun h' tk d k => by
    obtain ⟨o, es, ep, d1, d2, d3, d4, d5, d6⟩ := d
    refine ⟨.ref s.heap.objs.size, upd H s.heap.objs.size (DictQ X.prog X.w s.heap.objs.size ((storedAllH [] ts).map fun x => (x.2.1, x.1))), I.laid (t' := tk) (fun b u e => k b u (by simp) e) (Nat.le_refl _) (dictQ_ok ⟨notSys, _, rfl, o, es, ep, d1, d2, d3, d4, d6⟩), rfl, q _ _ (I.hok.fresh (Nat.le_refl _)) (fun t m => ?_) fun j => ?_⟩
    · obtain ⟨x, hx, rfl⟩ := List.mem_map.mp m
      exact storedAllH_keys (P := fun k b => (b, k) ∈ rs.map (·.2.1)) (xs := []) (fun x hx => by cases hx) inTs x hx
    · have e1 : ((storedAllH [] ts).map fun x => (x.2.1, x.1)).map (·.2) = (storedAllH [] ts).map (·.1) := by
        rw [List.map_map]
        rfl
      have e2 : ts.map (·.1) = rs.map (·.2.1.2) := by
        have z := congrArg (List.map (fun q : Addr × List Str => q.2)) k1
        rw [List.map_map, List.map_map] at z
        exact z
      rw [e1, keys_all, e2]
      simp
  rcases pl with pl | pl
  · exact call_dict_pairsH (knd := TQ X.prog X.w) (PairArg.list a its.toArray Ts ps) (I.ok.hd hc) (by show X.A.units + 1 + 1 < cLine; omega) ⟨pl, items⟩ k2 (fun h' hk2 x hx => setKey_tq.ext (keyIs x hx) fun b o e => hk2 b o (Nat.ne_of_lt (Heap.lt_size e)) (by simp) e) hz2 fin
  · exact call_dict_pairsH (knd := TQ X.prog X.w) (PairArg.tuple a its.toArray Ts ps) (I.ok.hd hc) (by show X.A.units + 1 + 1 < cLine; omega) ⟨pl, items⟩ k2 (fun h' hk2 x hx => setKey_tq.ext (keyIs x hx) fun b o e => hk2 b o (Nat.ne_of_lt (Heap.lt_size e)) (by simp) e) hz2 fin
/-- row in such a dict -/
def rInT (K : PySem.W.Frag) (P : Program) (w : World) : R2 := fun x y H Q => ∃ (a b : Addr) (L : List (Addr × List Str)) (r : List Str), x = V.ref b ∧ y = V.ref a ∧ H a = some (DictQ P w a L) ∧ Tups K H L ∧ SqT K H b (r.map .str) ∧ Q (.bl (decide (r ∈ L.map (·.2)))) H
theorem op_inT (hu : X.A.units + 64 < cLine) : OpR X (compareOp .In) (rInT X.K X.prog X.w) := by
  intro pins s σ H x y v u Q I rx ry h
  obtain ⟨a, b, L, r, rfl, rfl, ha, hL, hb, q⟩ := h
  cases rx
  cases ry
  obtain ⟨e0, xs, e1, o, es, ep, d1, d2, d3, d4, d5⟩ := (show DictB X.prog X.w s.heap a L from (I.hok a _ ha).1)
  have keyIs : ∀ x ∈ xs, (TQ X.prog X.w).is s.heap x.1 x.2.1 := fun x hx => key_tq I (hL (x.2.1, x.1) (by
    rw [← e1]
    exact List.mem_map_of_mem (f := fun x : List Str × Addr × Value => (x.2.1, x.1)) hx))
  have em : xs.map (·.1) = L.map (·.2) := by
    rw [← e1, List.map_map]
    rfl
  refine wpAny_in_heap (knd := TQ X.prog X.w) (xs := xs) (by show X.A.units + 1 < cLine; omega) (key_tq I hb) e0 ⟨o, es, ep, d1, d2, d3, d4, keyIs, d5⟩ ?_
  rw [atKey_mem, em]
  exact ⟨.bl _, H, I.kept (t' := s.toks + (TQ X.prog X.w).draws r) (fun b u e => e), congrArg Value.bool (decide_eq_decide.mpr Iff.rfl), q⟩
end
end Ly

namespace Ly
open PySem PySem.Spec PyProof.Rows L2
/-! the tables of a WORLD, and WORLDS, whose tuple of tables dict() can read -/
section
variable {K : PySem.W.Frag} {b p t : Addr} {H H' : Hp} {o : HO} {xs : List V}
theorem Plt.dr (d : Dr b H H') (h : Plt H t xs) : Plt H' t xs := by
  obtain ⟨o, e, r⟩ := h
  obtain ⟨ys, eb⟩ := d.old.top
  refine ⟨o, d.kp t _ (fun z => ?_) e, r⟩
  rw [z, eb] at e
  cases e
theorem Plt.same (s : Same H H') (h : Plt H t xs) : Plt H' t xs := by
  obtain ⟨o, e, r⟩ := h
  exact ⟨o, s _ _ e, r⟩
theorem Plt.wr {ys : List V} (hp : H p = some (.lst ys)) (h : Plt H t xs) : Plt (upd H p o) t xs := by
  obtain ⟨o, e, r⟩ := h
  refine ⟨o, ?_, r⟩
  rw [upd_ne fun z => ?_]
  · exact e
  · rw [z, hp] at e
    cases e
end
def TbA (K : PySem.W.Frag) (H : Hp) (v : V) (tabs : List (Str × List (List Str))) : Prop := ∃ tb vs, v = .ref tb ∧ Plt H tb vs ∧ DqA K H vs (tabs.map tabD)
section
variable {K : PySem.W.Frag} {b p : Addr} {H H' : Hp} {o : HO} {v : V} {tabs : List (Str × List (List Str))}
theorem TbA.dq (h : TbA K H v tabs) : Dq K H v (.tuple (tabs.map tabD)) := by
  obtain ⟨tb, vs, rfl, z, h⟩ := h
  exact .tup z.sq h
theorem TbA.dr (h : TbA K H v tabs) (d : Dr b H H') : TbA K H' v tabs := by
  obtain ⟨tb, vs, e, z, h⟩ := h
  exact ⟨tb, vs, e, z.dr d, h.dr d (tup_tabs _)⟩
theorem TbA.mono (h : TbA K H v tabs) (s : Same H H') : TbA K H' v tabs := by
  obtain ⟨tb, vs, e, z, h⟩ := h
  exact ⟨tb, vs, e, z.same s, h.mono s⟩
theorem TbA.wr {ys : List V} (hp : H p = some (.lst ys)) (h : TbA K H v tabs) : TbA K (upd H p o) v tabs := by
  obtain ⟨tb, vs, e, z, h⟩ := h
  exact ⟨tb, vs, e, z.wr hp, DqA.wr hp h (tup_tabs _)⟩
end
/-- a WORLD at p -/
structure WAx (K : PySem.W.Frag) (H : Hp) (p : Addr) (W : Wld) (v0 v1 v2 v3 v4 : V) : Prop where
  sq : SqT K H p [v0, v1, v2, v3, v4]
  tiles : Dq K H v0 (rowD W.tiles)
  tabs : TbA K H v1 W.tabs
  marks : Dq K H v2 (rowD W.marks)
  ties : Dq K H v3 (.tuple (W.ties.map rowD))
  told : Dq K H v4 (.tuple (W.told.map rowD))
def WAt (K : PySem.W.Frag) (H : Hp) (p : Addr) (W : Wld) : Prop := ∃ v0 v1 v2 v3 v4, WAx K H p W v0 v1 v2 v3 v4
section
variable {K : PySem.W.Frag} {b p q : Addr} {H H' : Hp} {W : Wld} {o : HO} {v0 v1 v2 v3 v4 : V}
theorem WAx.dq (h : WAx K H p W v0 v1 v2 v3 v4) : Dq K H (.ref p) W.d := .tup h.sq (.cons h.tiles (.cons h.tabs.dq (.cons h.marks (.cons h.ties (.cons h.told .nil)))))
theorem WAx.dr (h : WAx K H p W v0 v1 v2 v3 v4) (d : Dr b H H') : WAx K H' p W v0 v1 v2 v3 v4 :=
  ⟨d.seqT h.sq, h.tiles.dr d (tup_row _), h.tabs.dr d, h.marks.dr d (tup_row _), h.ties.dr d (by show tupDs _ = true; exact tup_rows _), h.told.dr d (by show tupDs _ = true; exact tup_rows _)⟩
theorem WAx.mono (h : WAx K H p W v0 v1 v2 v3 v4) (s : Same H H') : WAx K H' p W v0 v1 v2 v3 v4 :=
  ⟨Same.seqT s h.sq, h.tiles.mono s, h.tabs.mono s, h.marks.mono s, h.ties.mono s, h.told.mono s⟩
theorem WAx.wr {ys : List V} (hq : H q = some (.lst ys)) (h : WAx K H p W v0 v1 v2 v3 v4) : WAx K (upd H q o) p W v0 v1 v2 v3 v4 :=
  ⟨seqT_wr hq h.sq, h.tiles.wr hq (tup_row _), h.tabs.wr hq, h.marks.wr hq (tup_row _), h.ties.wr hq (by show tupDs _ = true; exact tup_rows _), h.told.wr hq (by show tupDs _ = true; exact tup_rows _)⟩
theorem WAt.dq (h : WAt K H p W) : Dq K H (.ref p) W.d := let ⟨_, _, _, _, _, x⟩ := h; x.dq
theorem WAt.dr (h : WAt K H p W) (d : Dr b H H') : WAt K H' p W := let ⟨_, _, _, _, _, x⟩ := h; ⟨_, _, _, _, _, x.dr d⟩
theorem WAt.mono (h : WAt K H p W) (s : Same H H') : WAt K H' p W := let ⟨_, _, _, _, _, x⟩ := h; ⟨_, _, _, _, _, x.mono s⟩
end
end Ly

namespace Ly
open PySem PySem.Spec PyProof.Rows L2
/-! the dict of a WORLD's tables -/
theorem hu1 {A : Around} {k : Nat} (hr : Room k A) : A.units + 1 < cLine := by
  have z := hu64 hr
  omega
section
variable {κ : Type} [DecidableEq κ]
theorem valV_out {k : κ} : ∀ {kvs : List (κ × V)}, k ∉ kvs.map (·.1) → valV kvs k = none
  | [], _ => rfl
  | p :: r, h => by
    rw [List.map_cons, List.mem_cons, not_or] at h
    rw [valV_neg (fun e => h.1 e.symm)]
    exact valV_out h.2
theorem valV_in {k : κ} {v : V} : ∀ {kvs : List (κ × V)}, (kvs.map (·.1)).Nodup → (k, v) ∈ kvs → valV kvs k = some v
  | p :: r, nd, m => by
    rw [List.map_cons, List.nodup_cons] at nd
    rcases List.mem_cons.mp m with rfl | m
    · rw [valV_pos rfl]
    · rw [valV_neg fun e => nd.1 ?_]
      · exact valV_in nd.2 m
      · rw [e]
        exact List.mem_map_of_mem (f := Prod.fst) m
end
theorem merge_once : ∀ (more acc : List (Key × V)), ((acc ++ more).map (·.1)).Nodup → mergeK acc more = acc ++ more
  | [], acc, _ => by simp [mergeK]
  | p :: more, acc, nd => by
    have out : valV acc p.1 = none := valV_out fun m => by
      rw [List.map_append, List.map_cons] at nd
      exact (List.nodup_append.mp nd).2.2 _ m _ List.mem_cons_self rfl
    show mergeK (putK acc p.1 p.2) more = acc ++ p :: more
    rw [putK_new p.2 out, merge_once more]
    · simp
    · simpa using nd
/-- the entries of the tables -/
structure TabK (K : PySem.W.Frag) (H : Hp) (kvs : List (Key × V)) (tabs : List (Str × List (List Str))) : Prop where
  len : kvs.length = tabs.length
  at_ : ∀ (i : Nat) (t : Str × List (List Str)), tabs[i]? = some t → ∃ c, kvs[i]? = some (.inr t.1, c) ∧ Dq K H c (.tuple (t.2.map rowD))
  keys : kvs.map (·.1) = tabs.map fun t => .inr t.1
theorem tab_of {K : PySem.W.Frag} {H : Hp} {v : V} {t : Str × List (List Str)} (h : Dq K H v (tabD t)) : ∃ a c, v = .ref a ∧ SqT K H a [.str t.1, c] ∧ Dq K H c (.tuple (t.2.map rowD)) := by
  obtain ⟨a, vs, rfl, sq, da⟩ := h.tup_of
  obtain ⟨k, ws, rfl, dk, da⟩ := da.cons_of
  obtain ⟨c, ws, rfl, dc, da⟩ := da.cons_of
  have e := da.nil_of
  subst e
  cases dk
  exact ⟨a, c, rfl, sq, dc⟩
theorem tabs_of {K : PySem.W.Frag} {H : Hp} : ∀ {vs : List V} {tabs : List (Str × List (List Str))}, DqA K H vs (tabs.map tabD) → ∃ (as : List Addr) (kvs : List (Key × V)), vs = as.map V.ref ∧ as.length = kvs.length ∧
    (∀ (i : Nat) (b : Addr) (q : Key × V), as[i]? = some b → kvs[i]? = some q → SqT K H b [kV q.1, q.2]) ∧ TabK K H kvs tabs
  | vs, [], h => by
    have e := h.nil_of
    subst e
    exact ⟨[], [], rfl, rfl, fun i b q e => by simp at e, rfl, fun i t e => by simp at e, rfl⟩
  | vs, t :: tabs, h => by
    obtain ⟨v, ws, rfl, d, h2⟩ := h.cons_of
    obtain ⟨a, c, rfl, sq, dc⟩ := tab_of d
    obtain ⟨as, kvs, rfl, len, each, T⟩ := tabs_of h2
    refine ⟨a :: as, (.inr t.1, c) :: kvs, rfl, by simp [len], fun i b q e1 e2 => ?_, by simp [T.len], fun i s e => ?_, by rw [List.map_cons, List.map_cons, T.keys]⟩
    · cases i with
      | zero =>
        have e1 : a = b := by simpa using e1
        have e2 : (Sum.inr t.1, c) = q := by simpa using e2
        subst e1
        subst e2
        exact sq
      | succ i => exact each i b q (by simpa using e1) (by simpa using e2)
    · cases i with
      | zero =>
        have e : t = s := by simpa using e
        subst e
        exact ⟨c, rfl, dc⟩
      | succ i => exact T.at_ i s (by simpa using e)
section
variable {K : PySem.W.Frag} {b p : Addr} {H H' : Hp} {kvs : List (Key × V)} {tabs : List (Str × List (List Str))} {o : HO}
theorem TabK.mono (T : TabK K H kvs tabs) (s : Same H H') : TabK K H' kvs tabs :=
  ⟨T.len, fun i t e => let ⟨c, a, d⟩ := T.at_ i t e; ⟨c, a, d.mono s⟩, T.keys⟩
theorem TabK.dr (T : TabK K H kvs tabs) (d : Dr b H H') : TabK K H' kvs tabs :=
  ⟨T.len, fun i t e => let ⟨c, a, z⟩ := T.at_ i t e; ⟨c, a, z.dr d (by show tupDs _ = true; exact tup_rows _)⟩, T.keys⟩
theorem TabK.once (T : TabK K H kvs tabs) (nd : (tabs.map (·.1)).Nodup) : (kvs.map (·.1)).Nodup := by
  rw [T.keys, show (tabs.map fun t => (Sum.inr t.1 : Key)) = (tabs.map (·.1)).map Sum.inr from by rw [List.map_map]; rfl]
  exact List.Pairwise.map _ (fun a b n e => n (Sum.inr.inj e)) nd
theorem TabK.merge (T : TabK K H kvs tabs) (nd : (tabs.map (·.1)).Nodup) : mergeK [] kvs = kvs := merge_once kvs [] (T.once nd)
theorem TabK.get (T : TabK K H kvs tabs) (nd : (tabs.map (·.1)).Nodup) {t : Str × List (List Str)} (m : t ∈ tabs) : ∃ c, valV kvs (.inr t.1) = some c ∧ Dq K H c (.tuple (t.2.map rowD)) := by
  obtain ⟨i, lt, e⟩ := List.getElem_of_mem m
  obtain ⟨c, e2, d⟩ := T.at_ i t (List.getElem?_eq_some_iff.mpr ⟨lt, e⟩)
  exact ⟨c, valV_in (T.once nd) (List.mem_of_getElem? e2), d⟩
end
end Ly

namespace Ly
open PySem PySem.Spec PyProof.Rows L2
/-! a row in a tuple of rows -/
theorem any_row (r : List Str) : ∀ rs : List (List Str), ((rs.map rowD).any fun z => PyData.eqv z (rowD r)) = decide (r ∈ rs)
  | [] => by simp
  | q :: rs => by
    rw [List.map_cons, List.any_cons, any_row r rs, eqv_row]
    by_cases c : q = r
    · subst c
      simp
    · have c2 : ¬ r = q := fun e => c e.symm
      simp [c, c2]
def rInRow (K : PySem.W.Frag) : R2 := fun x y H Q => ∃ (r : List Str) (rs : List (List Str)), Dq K H x (rowD r) ∧ Dq K H y (.tuple (rs.map rowD)) ∧ Oks r ∧ (∀ q ∈ rs, Oks q) ∧ Q (.bl (decide (r ∈ rs))) H
theorem op_inRow {X : Cx} (hu : X.A.units + 64 < cLine) : OpR X (compareOp .In) (rInRow X.K) := fun pins s σ H x y v u Q I rx ry h => by
  obtain ⟨r, rs, h1, h2, h3, h4, q⟩ := h
  have s1 := shaped_row h3
  have s2 := shaped_rowsT h4
  obtain ⟨as, r1⟩ := Dp.reads I _ x v (h1.dp (SeqAt.canLay_of_shaped s1)) rx
  obtain ⟨bs, r2⟩ := Dp.reads I _ y u (h2.dp (SeqAt.canLay_of_shaped s2)) ry
  refine SeqAt.in_tuple_reads r2 r1 (SeqAt.canLay_of_shaped s2) (SeqAt.canLay_of_shaped s1) ?_ ⟨.bl _, H, I, rfl, by rw [any_row]; exact q⟩
  have d1 : (rowD r).depth = 1 := depth_encT (0, r)
  rw [d1]
  omega
end Ly

namespace Ly
open PySem PySem.Spec PyProof.Rows L2
/-! a dict is no text -/
theorem dict_asked_text (l : Addr) (o : Obj) (t : Str) (k : Tok) : PySem.Meets (Builtin.«dict.__eq__» ⟨[.ref l, .str t k], []⟩) (fun _ R s => s.heap.get? l = some o ∧ o.cls = .type "dict" ∧ R (.ok (.ret .notImplemented)) s) :=
  .of_wp fun prog w A R s h => by
    obtain ⟨hp, g, d, tk, os⟩ := s
    obtain ⟨hl, hc, h⟩ := h
    have f1 := F.sub_str_dict
    wp_walk using wpAny_loadPart' hl, wpAny_load hl
    exact ⟨_, rfl, h⟩
theorem text_asked_dict (l : Addr) (dd : Option Addr) (es : Array DictEntry) (n : Nat) (sl : Array (Option Value)) (t : Str) (k : Tok) :
    PySem.Meets (Builtin.«str.__eq__» ⟨[.str t k, .ref l], []⟩) (fun _ R s => s.heap.get? l = some { cls := .type "dict", dict := dd, data := .dict es n, slots := sl } ∧ R (.ok (.ret .notImplemented)) s) :=
  .of_wp fun prog w A R s h => by
    obtain ⟨hp, g, d, tk, os⟩ := s
    obtain ⟨hl, h⟩ := h
    wp_walk using wpAny_loadPart' hl, wpAny_load hl
    exact ⟨_, rfl, h⟩
theorem text_ne_dict {A : Around} {s : Shared} {l : Addr} {dd : Option Addr} {es : Array DictEntry} {n : Nat} {sl : Array (Option Value)} (t : Str) (k : Tok) (hl : s.heap.get? l = some { cls := .type "dict", dict := dd, data := .dict es n, slots := sl }) (hu : A.units < cLine) :
    SeqAt.EqAt A s (.str t k) (.ref l) false := fun prog w E Q h => by
  unfold eqBool
  refine wpAny_holding ?_
  refine wpAny_ite_split (fun z => absurd (eq_of_beq z) nofun) fun _ => wpAny_bind ?_
  refine SeqAt.rc_eq_decline_or (k := false) (typeIs_str s t k) ⟨_, hl, rfl⟩ (by decide) F.sub_dict_str F.slot_str_eq F.slot_dict_eq_refl ?_ ?_ (fun _ q => wpAny_of_eq (rfl : isSame (.str t k) (.ref l) = pure false) q) (.inr hu) (wpAny_truthy_bool h)
  · exact fun _ q => call_meets F.slot_str_eq (typeIs_str s t k) F.entry_str_eq (F.args_str_eq_2 _ _) (text_asked_dict l dd es n sl t k) ⟨hl, q⟩
  · exact fun _ q => call_meets F.slot_dict_eq_refl ⟨_, hl, rfl⟩ F.entry_dict_eq (F.args_dict_eq_2 _ _) (dict_asked_text l _ t k) ⟨hl, rfl, q⟩
/-! any value in a tuple of texts -/
def inTx (d : PyData) (ts : List Str) : Bool := match d with
  | .str t => decide (t ∈ ts)
  | _ => false
theorem texts_read {h : Heap} : ∀ {vs : List Value} {ts : List Str} {as : List Addr}, ReadsAll h vs (ts.map .str) as → (∀ v ∈ vs, ∃ t k, v = .str t k) ∧ vs.map (fun v => match v with | .str t _ => t | _ => ⟨#[]⟩) = ts
  | [], [], _, _ => ⟨fun _ z => (nomatch z), rfl⟩
  | [], _ :: _, _, h => nomatch h
  | _ :: _, [], _, h => nomatch h
  | v :: vs, t :: ts, _, .cons h1 h2 => by
    obtain ⟨i1, i2⟩ := texts_read h2
    cases h1
    refine ⟨fun u m => ?_, by rw [List.map_cons, i2]⟩
    rcases List.mem_cons.mp m with rfl | m
    · exact ⟨_, _, rfl⟩
    · exact i1 u m
def rInD (K : PySem.W.Frag) : R2 := fun x y H Q => ∃ (d : PyData) (a : Addr) (ts : List Str), Dq K H x d ∧ y = .ref a ∧ SqT K H a (ts.map .str) ∧ Q (.bl (inTx d ts)) H
theorem op_inD {X : Cx} (hS : SysD X.K) (hu : X.A.units + 64 < cLine) : OpR X (compareOp .In) (rInD X.K) := by
  intro pins s σ H x y v u Q I rx ry h
  obtain ⟨d, a, ts, dx, rfl, hy, q⟩ := h
  obtain ⟨as, rd, _⟩ := Dq.reads hS I dx rx
  obtain ⟨bs, ry', _⟩ := Dq.reads hS I (row_is hy) ry
  cases ry
  cases ry' with
  | tuple h1 h2 h3 h4 =>
    rename_i o vs n
    obtain ⟨each, all⟩ := texts_read h4
    have hu2 : X.A.in1.units < cLine := by
      show X.A.units + 1 < cLine
      omega
    refine SeqAt.in_tupleAt (fun z => match z with | .str t _ => inTx d [t] | _ => false) ⟨_, h1, h2, _, h3⟩ (fun z hz => ?_) ?_
    · obtain ⟨t, k, rfl⟩ := each z (by simpa using hz)
      show SeqAt.EqAt X.A.in1 s (.str t k) v (inTx d [t])
      cases rd with
      | none => exact SeqAt.EqAt.str_none t k
      | bool b => exact SeqAt.EqAt.str_bool t k b
      | int i w => exact SeqAt.EqAt.str_int t k i w
      | str w j =>
        have e : inTx (.str w) [t] = (t == w) := by
          show decide (w ∈ [t]) = _
          by_cases c : t = w
          · subst c
            simp
          · have c2 : ¬ w = t := fun e => c e.symm
            simp [c, c2]
        rw [e]
        exact SeqAt.EqAt.str_str t k w j
      | list g1 g2 g3 g4 => exact SeqAt.EqAt.str_list t k ⟨_, g1, g2, _, g3⟩ hu2
      | tuple g1 g2 g3 g4 => exact SeqAt.EqAt.str_tuple t k ⟨_, g1, g2, _, g3⟩ hu2
      | @dict a' o' es n' kvs as' bs' g1 g2 g3 g4 g5 =>
        obtain ⟨c, dd, data, sl⟩ := o'
        have g2 : c = .type "dict" := g2
        have g3 : data = .dict es n' := g3
        subst g2 g3
        exact text_ne_dict t k g1 hu2
    · refine ⟨.bl _, H, I, rfl, ?_⟩
      have e : (vs.any fun z => match z with | .str t _ => inTx d [t] | _ => false) = inTx d ts := by
        rw [← all, ← Array.any_toList]
        generalize vs.toList = l at each ⊢
        induction l with
        | nil => cases d <;> rfl
        | cons z l ih =>
          obtain ⟨t, k, rfl⟩ := each z List.mem_cons_self
          have i2 := ih fun w m => each w (List.mem_cons_of_mem _ m)
          rw [List.any_cons, i2, List.map_cons]
          cases d with
          | str w => simp [inTx]
          | _ => rfl
      rw [e]
      exact q
end Ly

namespace Ly
open PySem PySem.Spec PyProof.Rows L2
/-! isinstance of data -/
def tyD : PyData → String
  | .none => "NoneType"
  | .bool _ => "bool"
  | .int _ => "int"
  | .str _ => "str"
  | .list _ => "list"
  | .tuple _ => "tuple"
  | .dict _ => "dict"
theorem tyx_of {K : PySem.W.Frag} {H : Hp} {v : V} {d : PyData} (h : Dq K H v d) : TyX K H v (.type (tyD d)) := by
  cases h with
  | non => exact .base .non
  | bl b => exact .base (.bl b)
  | int i => exact .base (.int i)
  | str x => exact .base (.str x)
  | lst hs _ =>
    rcases hs with (e | ⟨o, e⟩) | ⟨o, its, n, e, c, _⟩
    · exact .base (.lst e)
    · exact .base (.frz e)
    · exact .kList e c
  | tup hs _ =>
    rcases hs with (e | ⟨o, e⟩) | ⟨o, its, n, e, c, _⟩
    · exact .base (.tup e)
    · exact .fTuple e
    · exact .kTuple e c
  | dic e _ => exact .base (.dK e)
def isT : PyData → Bool
  | .tuple _ => true
  | _ => false
def isS : PyData → Bool
  | .str _ => true
  | _ => false
def isI : PyData → Bool
  | .int _ => true
  | _ => false
def isBl : PyData → Bool
  | .bool _ => true
  | _ => false
def isDc : PyData → Bool
  | .dict _ => true
  | _ => false
theorem kit_tuple (d : PyData) : kitB (tyD d) "tuple" = some (isT d) := by
  obtain ⟨h1, h2, h3, h4, h5, h6, h7⟩ : kitB "NoneType" "tuple" = some false ∧ kitB "bool" "tuple" = some false ∧ kitB "int" "tuple" = some false ∧ kitB "str" "tuple" = some false ∧ kitB "list" "tuple" = some false ∧ kitB "tuple" "tuple" = some true ∧ kitB "dict" "tuple" = some false := by decide +kernel
  cases d <;> first | exact h1 | exact h2 | exact h3 | exact h4 | exact h5 | exact h6 | exact h7
theorem kit_str (d : PyData) : kitB (tyD d) "str" = some (isS d) := by
  obtain ⟨h1, h2, h3, h4, h5, h6, h7⟩ : kitB "NoneType" "str" = some false ∧ kitB "bool" "str" = some false ∧ kitB "int" "str" = some false ∧ kitB "str" "str" = some true ∧ kitB "list" "str" = some false ∧ kitB "tuple" "str" = some false ∧ kitB "dict" "str" = some false := by decide +kernel
  cases d <;> first | exact h1 | exact h2 | exact h3 | exact h4 | exact h5 | exact h6 | exact h7
theorem kit_int (d : PyData) : kitB (tyD d) "int" = some (isI d || isBl d) := by
  obtain ⟨h1, h2, h3, h4, h5, h6, h7⟩ : kitB "NoneType" "int" = some false ∧ kitB "bool" "int" = some true ∧ kitB "int" "int" = some true ∧ kitB "str" "int" = some false ∧ kitB "list" "int" = some false ∧ kitB "tuple" "int" = some false ∧ kitB "dict" "int" = some false := by decide +kernel
  cases d <;> first | exact h1 | exact h2 | exact h3 | exact h4 | exact h5 | exact h6 | exact h7
theorem kit_bool (d : PyData) : kitB (tyD d) "bool" = some (isBl d) := by
  obtain ⟨h1, h2, h3, h4, h5, h6, h7⟩ : kitB "NoneType" "bool" = some false ∧ kitB "bool" "bool" = some true ∧ kitB "int" "bool" = some false ∧ kitB "str" "bool" = some false ∧ kitB "list" "bool" = some false ∧ kitB "tuple" "bool" = some false ∧ kitB "dict" "bool" = some false := by decide +kernel
  cases d <;> first | exact h1 | exact h2 | exact h3 | exact h4 | exact h5 | exact h6 | exact h7
theorem kit_dict (d : PyData) : kitB (tyD d) "dict" = some (isDc d) := by
  obtain ⟨h1, h2, h3, h4, h5, h6, h7⟩ : kitB "NoneType" "dict" = some false ∧ kitB "bool" "dict" = some false ∧ kitB "int" "dict" = some false ∧ kitB "str" "dict" = some false ∧ kitB "list" "dict" = some false ∧ kitB "tuple" "dict" = some false ∧ kitB "dict" "dict" = some true := by decide +kernel
  cases d <;> first | exact h1 | exact h2 | exact h3 | exact h4 | exact h5 | exact h6 | exact h7
def rIsD (K : PySem.W.Frag) : List V → Hp → VK → Prop := fun xs H Q => ∃ (v : V) (T : String) (d : PyData) (b : Bool), xs = [v, .ty T] ∧ Dq K H v d ∧ kitB (tyD d) T = some b ∧ Q (.bl b) H
theorem call_isD {X : Cx} : CallR X (.builtin "isinstance") (rIsD X.K) := by
  intro pins s σ H xs us Q I r h
  obtain ⟨v, T, d, b, rfl, hd, e, q⟩ := h
  exact call_isi pins s σ H _ us Q I r ⟨v, .ty T, _, _, b, rfl, .ty T, tyx_of hd, kit_ty e, q⟩
theorem pe_tyN {X : Cx} {x : Str} {T : String} {pos : Pos} (hg : Gl X x) (hm : X.mg x = none) (hv : bootBuiltins x = some (.type T)) (hn : x ≠ "__name__" := by decide) (hd : (x == ("__debug__" : Str)) = false := by decide) : PE X (.Name x pos) (tC (.ty T)) :=
  pe_bltn hg hm hv rfl hn hd
end Ly

namespace Ly
open PySem PySem.Spec PyProof.Rows L2
/-! the facts of a top: as He.hookD has them, the dict of the modules and one more test -/
def partS (g : Addr → Option Obj) (n : Nat) : PySem.W.Frag := He.frG g (sysModules :: He.asD g n)
def sysB (K : PySem.W.Frag) : Bool := match K.lookup sysModules with
  | some o => decide (o.cls = .type "dict")
  | none => false
theorem sysB_ok {K : PySem.W.Frag} (h : sysB K = true) : SysD K := by
  unfold sysB at h
  match e : K.lookup sysModules with
  | some o =>
    rw [e] at h
    exact ⟨o, e, of_decide_eq_true h⟩
  | none =>
    rw [e] at h
    cases h
abbrev AlS : Type := He.AlD × Bool
def seenS (n : Nat) (fa : List He.Fa) (fn : List He.DefD) (ex : PySem.W.Frag → Bool) (g : Addr → Option Obj) : AlS :=
  (He.obsD fa fn (partS g n), sysB (partS g n) && ex (partS g n))
structure SaysS (fa : List He.Fa) (fn : List He.DefD) (ex : PySem.W.Frag → Bool) (K : PySem.W.Frag) : Prop where
  d : He.SaysD fa fn K
  sys : SysD K
  more : ex K = true
def hookS (n : Nat) (fa : List He.Fa) (fn : List He.DefD) (ex : PySem.W.Frag → Bool) : PySem.W.Hook where
  α := AlS
  obs := fun s => seenS n fa fn ex s.heap.get?
  val := fun _ => (He.valD fn, true)
  says := fun _ h => ∃ K : PySem.W.Frag, K.In h ∧ SaysS fa fn ex K
  of := fun _ s e => by
    have e1 : He.obsD fa fn (partS s.heap.get? n) = He.valD fn := congrArg (fun z : AlS => z.1) e
    have e2 : (sysB (partS s.heap.get? n) && ex (partS s.heap.get? n)) = true := congrArg (fun z : AlS => z.2) e
    obtain ⟨e3, e4⟩ := Bool.and_eq_true_iff.mp e2
    exact ⟨_, He.frG_in, e1, sysB_ok e3, e4⟩
  keeps := fun _ _ _ ⟨K, hK, c⟩ k => ⟨K, PySem.W.Frag.In.keeps hK k, c⟩
theorem seenS_eq {n : Nat} {fa : List He.Fa} {fn : List He.DefD} {ex : PySem.W.Frag → Bool} {g : Addr → Option Obj} {s : Shared} (h : ∀ a, g a = s.heap.get? a) :
    seenS n fa fn ex g = (hookS n fa fn ex).obs s := by
  have e : g = s.heap.get? := funext h
  rw [e] <;> rfl
/-! own exception classes with an __init__ -/
def oexB (K : PySem.W.Frag) (C : Addr) : Bool := match K.lookup C with
  | some ⟨.type "type", _, .cls cd, sl⟩ => (match cd.mro, sl.toList with
    | .ref D :: bm, [_, _, _, _, some (.builtin n), _] => D == C && n == "ValueError.__new__" && !cd.hasDel && cd.hasDict && PySem.HandSPX.refsVE bm
    | _, _ => false)
  | _ => false
theorem oexB_ok {K : PySem.W.Frag} {C : Addr} (q : oexB K C = true) :
    ∃ nm qn N bs bm sn sub ab col dd k0 k1 k2 k3 k5, K.lookup C = some (excClassObj nm qn C N bs bm true sn sub ab col dd k0 k1 k2 k3 k5 "ValueError.__new__") ∧ PySem.HandSPX.refsVE bm = true := by
  unfold oexB at q
  split at q
  · rename_i dd cd sl ho
    split at q
    · rename_i D bm k0 k1 k2 k3 n k5 hm hs
      simp only [Bool.and_eq_true, beq_iff_eq, Bool.not_eq_true'] at q
      obtain ⟨⟨⟨⟨rfl, rfl⟩, h1⟩, h2⟩, h3⟩ := q
      obtain ⟨nm, bs, mro, ns, qn, hd, sn, sub, ab, col, del⟩ := cd
      dsimp only at hm h1 h2
      subst hm h1 h2
      have e : sl = #[k0, k1, k2, k3, some (.builtin "ValueError.__new__"), k5] := by
        obtain ⟨l⟩ := sl
        simp only at hs
        rw [hs]
      subst e
      exact ⟨nm, qn, ns, bs, bm, sn, sub, ab, col, dd, k0, k1, k2, k3, k5, ho, h3⟩
    · cases q
  · cases q
/-- all that is asked of such a class x -/
def excB (K : PySem.W.Frag) (C f : Addr) : Bool :=
  oexB K C && (decide (PySem.W.findIn K (.ref C) "__setattr__" = some (some (.builtin "object.__setattr__"))) &&
  (decide (PySem.W.findIn K (.ref C) "__getattribute__" = some (some (.builtin "BaseException.__getattribute__"))) &&
  (decide (PySem.W.findIn K (.ref C) "__getattr__" = some none) && (decide (PySem.W.findIn K (.ref C) "__init__" = some (some (.ref f))) &&
  (decide (PySem.W.subIn K (.ref C) (.type "BaseException") = some true) && (decide (PySem.W.typeIn K (.ref C) = some (.type "type")) &&
  (PySem.W.keepIn K (.ref C) && (PySem.W.hasDictIn K C && (decide (PySem.W.typeIn K (.ref f) = some (.type "function")) &&
  (decide (PySem.W.findIn K (.ref C) "__class__" = some (some (.builtin "object.__class__"))) && decide (PySem.W.mroIn K C (.type "object") = some true)))))))))))
structure ExcT (K : PySem.W.Frag) (C f : Addr) : Prop where
  oex : OexC K C
  xf : XfC K C
  init : PySem.W.findIn K (.ref C) "__init__" = some (some (.ref f))
  tI : PySem.W.typeIn K (.ref f) = some (.type "function")
  cl : PySem.W.findIn K (.ref C) "__class__" = some (some (.builtin "object.__class__"))
  mro : PySem.W.mroIn K C (.type "object") = some true
theorem excB_ok {K : PySem.W.Frag} {C f : Addr} (h : excB K C f = true) : ExcT K C f := by
  unfold excB at h
  simp only [Bool.and_eq_true, decide_eq_true_eq] at h
  obtain ⟨h1, h2, h3, h4, h5, h6, h7, h8, h9, h10, h11, h12⟩ := h
  exact ⟨⟨oexB_ok h1, h2, h6, h7, h8⟩, ⟨h3, h4, h6, h9⟩, h5, h10, h11, h12⟩
end Ly

namespace Ly
open PySem PySem.Spec PyProof.Rows L2 LamX NdefX
/-! lambdas with parameters, handed to defs and called there -/
/-- the object at f is the lambda F with the body e -/
def LamO (f : Addr) (F : NF) (e : Expr) : HO := .ext fun h => ∃ pm ctv : Value, h.get? f = some (PySem.W.kla_obj F.name F.qual F.params e F.scope F.cl pm F.c ctv)
theorem lamO_ne {f : Addr} {F : NF} {e : Expr} (ps : Array Value) : LamO f F e ≠ .tbl ps := fun z => by
  unfold LamO at z
  cases z
theorem lamO_at {P : Program} {w : World} {H : Hp} {h : Heap} {f : Addr} {F : NF} {e : Expr} (hok : HOk P w H h) (q : H f = some (LamO f F e)) : ∃ pm ctv : Value, h.get? f = some (PySem.W.kla_obj F.name F.qual F.params e F.scope F.cl pm F.c ctv) := by
  obtain ⟨z, _, _⟩ := hok f _ q
  exact z
section
variable {X : Cx} {pins : List (Addr × Obj)} {σ : L2.St} {H : Hp} {s : Shared}
theorem inv_lam {F : NF} {e : Expr} {o : Obj} {t' : Nat} {pm ctv : Value} (I : Inv X pins σ H s) (ho : o = PySem.W.kla_obj F.name F.qual F.params e F.scope F.cl pm F.c ctv) :
    Inv X pins σ (upd H s.heap.objs.size (LamO s.heap.objs.size F e)) { s with heap := s.heap.push o, toks := t' } := by
  subst ho
  refine I.laid (a := s.heap.objs.size) (fun b u e => Heap.get?_push_of_some _ e) (Nat.le_refl _) ?_
  have e1 : (s.heap.push (PySem.W.kla_obj F.name F.qual F.params e F.scope F.cl pm F.c ctv)).get? s.heap.objs.size = some (PySem.W.kla_obj F.name F.qual F.params e F.scope F.cl pm F.c ctv) := Heap.get?_push_size _ rfl
  exact ⟨⟨pm, ctv, e1⟩, ⟨_, e1⟩, fun h1 h2 ⟨p, t, z⟩ st => ⟨p, t, st _ z⟩⟩
/-- the lambda is made and from now on known -/
theorem lam_make {T : List (Addr × Str)} {c P : Addr} {params : Arguments} {body : Expr} {scope : Scope} {pos : Pos} {E : Value → Shared → Prop} {Q : Value → Shared → Prop} (I : Inv X pins σ H s) (TB : TabB X.base X.mg c P) (hcode : X.env.code = .ref c)
    (hm : (P, X.env.qual ++ "<lambda>") ∈ T) (hu : ∀ p ∈ T, p.1 = P → p.2 = X.env.qual ++ "<lambda>") (hT : Tabs T H) (hdef : defaultsOf params X.env = ([], [])) (hfree : ∀ y ∈ scope.names, y.2 = .free → ∃ c, X.env.cells.lookup y.1 = some c)
    (h : ∀ (f c' : Addr) (H1 : Hp) (s' : Shared), Inv X pins σ H1 s' → ExtN H H1 → (∀ b, H1 b = Option.none → H b = Option.none) → Tabs T H1 → H f = none →
      H1 f = some (LamO f ⟨"<lambda>", X.env.qual ++ "<lambda>", params, [], scope, cloFrom X.env.cells scope.names [], c'⟩ body) → H1 c' = some (CodeO c' (X.env.qual ++ "<lambda>")) → Q (.ref f) s') :
    wpAny (model X.prog X.w) X.A (eval (.Lambda params body scope pos) X.env) Q E s := by
  obtain ⟨ps, hP, ht, ha⟩ := hT _ hm
  refine PySem.W.kla_eval hdef ?_
  have bP : s.heap.BuiltinsAt X.mg P := TB.bm.keeps I.bk
  have hP' : s.heap.get? P = some { cls := .none, data := .fields ps } := I.hok P _ hP
  cases hc : codeAmong pos ps.toList with
  | none =>
    refine PySem.W.kla_makeFunction (mg := X.mg) (c := c) (P := P) (ps := ps) (closure_ok hfree) I.ok.glob (I.mod.glob.keeps I.bk) hcode (TB.code.keeps I.bk) hP' ht hc TB.gP bP fun c' ctv h' tk hx hge hlt hrec htb => ?_
    obtain ⟨c2, oc, vs, t, e2, hoc, hd, hv⟩ := hrec
    cases e2
    have nC : H c' = none := I.hok.fresh hge
    have I1 := inv_table (t' := tk) (more := #[rawInt pos.line, rawInt pos.col, .ref c']) (h' := h') I hP (fun b o hb e => hx b o hb e) htb hge ⟨oc, vs, t, hoc, hd, hv⟩
    have hE : ExtN H (upd (upd H P (.tbl (ps ++ #[rawInt pos.line, rawInt pos.col, .ref c']))) c' (CodeO c' (X.env.qual ++ "<lambda>"))) := fun b o e n => by
      rw [upd_ne (ne_of_none e nC), upd_ne (fun z => n ps (Option.some.inj (e.symm.trans (by rw [z]; exact hP))))]
      exact e
    have eL : (ps ++ #[rawInt pos.line, rawInt pos.col, .ref c']).toList = ps.toList ++ [rawInt pos.line, rawInt pos.col, .ref c'] := by simp
    have T1 : Tabs T (upd (upd H P (.tbl (ps ++ #[rawInt pos.line, rawInt pos.col, .ref c']))) c' (CodeO c' (X.env.qual ++ "<lambda>"))) := fun p hp => by
      by_cases hb : p.1 = P
      · rw [hu p hp hb, hb]
        refine ⟨_, by rw [upd_ne (ne_of_none hP nC), upd_same], by rw [eL]; exact PySem.TriplesOk_snoc _ _ _ _ ht, fun p' cv hcv => ?_⟩
        rw [eL] at hcv
        rcases among_app _ ht hcv with z | z
        · obtain ⟨c0, e1, e2⟩ := ha p' cv z
          exact ⟨c0, e1, hE _ _ e2 codeO_ne⟩
        · exact ⟨c', z, upd_same⟩
      · obtain ⟨ps', a1, a2, a3⟩ := hT p hp
        refine ⟨ps', by rw [upd_ne (ne_of_none a1 nC), upd_ne hb]; exact a1, a2, fun p' cv hcv => ?_⟩
        obtain ⟨c0, e1, e2⟩ := a3 p' cv hcv
        exact ⟨c0, e1, hE _ _ e2 codeO_ne⟩
    have nF := I1.hok.fresh (Nat.le_refl _)
    have I2 := inv_lam (F := ⟨"<lambda>", X.env.qual ++ "<lambda>", params, [], scope, cloFrom X.env.cells scope.names [], c'⟩) (e := body) (t' := tk) (pm := (X.mg "__name__").getD .none) (ctv := ctv) I1 rfl
    refine h h'.objs.size c' _ _ I2 (fun b o e n => ?_) (fun b e => upd_none (upd_none (upd_none e))) (T1.ext fun b o e => ?_) (I.hok.fresh (Nat.le_trans hge (Nat.le_of_lt hlt))) upd_same ?_
    · have e1 := hE b o e n
      exact (upd_ne (ne_of_none e1 nF)).trans e1
    · exact (upd_ne (ne_of_none e nF)).trans e
    · exact (upd_ne (Nat.ne_of_lt hlt)).trans upd_same
  | some cv =>
    obtain ⟨c', e, hco⟩ := ha pos cv hc
    subst e
    refine PySem.W.kla_makeFunctionHit (mg := X.mg) (c := c) (P := P) (ps := ps) (closure_ok hfree) I.ok.glob (I.mod.glob.keeps I.bk) hcode (TB.code.keeps I.bk) hP' ht hc bP fun ctv h' tk hx hsz => ?_
    have I1 : Inv X pins σ H { s with heap := h', toks := tk } := I.kept hx
    have nF : H h'.objs.size = none := I1.hok.fresh (Nat.le_refl _)
    have I2 := inv_lam (F := ⟨"<lambda>", X.env.qual ++ "<lambda>", params, [], scope, cloFrom X.env.cells scope.names [], c'⟩) (e := body) (t' := tk) (pm := (X.mg "__name__").getD .none) (ctv := ctv) I1 rfl
    refine h h'.objs.size c' _ _ I2 (fun b o e n => ?_) (fun b e => upd_none e) (hT.ext fun b o e => ?_) nF upd_same ?_
    · exact (upd_ne (ne_of_none e nF)).trans e
    · exact (upd_ne (ne_of_none e nF)).trans e
    · exact (upd_ne (ne_of_none hco nF)).trans hco
end
/-- lambda ps: body, as an expression -/
def tLm (T : List (Addr × Str)) (q : Str) (params : Arguments) (body : Expr) (scope : Scope) (cl : List (Str × Addr)) : TE := fun _ H Q => Tabs T H ∧ ∀ (f c' : Addr) (H1 : Hp), ExtN H H1 → (∀ b, H1 b = Option.none → H b = Option.none) → Tabs T H1 → H f = none →
  H1 f = some (LamO f ⟨"<lambda>", q, params, [], scope, cl, c'⟩ body) → H1 c' = some (CodeO c' q) → Q (.ref f) H1
theorem pe_lm {X : Cx} {T : List (Addr × Str)} {c P : Addr} {params : Arguments} {body : Expr} {scope : Scope} {pos : Pos} (TB : TabB X.base X.mg c P) (hcode : X.env.code = .ref c)
    (hm : (P, X.env.qual ++ "<lambda>") ∈ T) (hu : ∀ p ∈ T, p.1 = P → p.2 = X.env.qual ++ "<lambda>") (hdef : defaultsOf params X.env = ([], [])) (hfree : ∀ y ∈ scope.names, y.2 = .free → X.env.scope.names.lookup y.1 = some .cell ∨ X.env.scope.names.lookup y.1 = some .free) :
    PE X (.Lambda params body scope pos) (tLm T (X.env.qual ++ "<lambda>") params body scope (cloFrom X.env.cells scope.names [])) := by
  refine ⟨fun pins s σ H Q I h => ?_⟩
  obtain ⟨hT, h⟩ := h
  exact lam_make I TB hcode hm hu hT hdef (fun y hy e => (hfree y hy e).elim (fun z => I.ok.has _ (.inl z)) fun z => I.ok.has _ (.inr z)) fun f c' H1 s' I1 h1 h2 h3 h4 h5 h6 => ⟨.ref f, H1, I1, rfl, h f c' H1 h1 h2 h3 h4 h5 h6⟩
/-- what a lambda promises: ws what its captured cells hold -/
structure LOk (P : Program) (w : World) (K : PySem.W.Frag) (mg : Str → Option Value) (base : Heap) (k : Nat) (f : Addr) (F : NF) (e : Expr) (ps fr : List Str) (sp : List (Option V) → Sp) : Prop where
  len : ∀ ws vs H Q E, sp ws vs H Q E → vs.length = ps.length
  run : ∀ (A : Around) (outer : List Env) (s : Shared) (H : Hp) (us : List Value) (vs : List V) (ws : List (Option V)) (Q : VK) (E : XK), Room k A → Env0 P w K mg base A outer s H → H f = some (LamO f F e) → H F.c = some (CodeO F.c F.qual) →
    CellsAt F.cl fr ws s.heap H → Vals vs us → sp ws vs H Q E → codeAny (model P w) A (.call (.ref f) ⟨us, []⟩) (CR CX0 outer P w H s Q E) s
section
variable {P : Program} {w : World} {K : PySem.W.Frag} {mg : Str → Option Value} {base : Heap} {N ps fr : List Str} {F : NF} {e : Expr} {f : Addr} {k j : Nat} {sp : List (Option V) → Sp}
/-- a lambda by its body -/
theorem lok_of (S : NScope N ps fr F.scope) (hb : ∀ (pm ctv : Value) (us : List Value), us.length = ps.length → bindArgs (PySem.W.kla_fn F.name F.qual F.params e F.scope F.cl pm (.ref F.c) ctv) ⟨us, []⟩ = pure (ps.zip us)) (len : ∀ ws vs H Q E, sp ws vs H Q E → vs.length = ps.length)
    (hbody : ∀ (A : Around) (outer : List Env) (s : Shared) (H : Hp) (vs : List V) (ws : List (Option V)) (Q : VK) (E : XK), Room k (A.deeper (envF F f s.heap.objs.size)) → ws.length = fr.length → sp ws vs H Q E →
      ∃ t, PE (ncx CX0 P w K mg base N F f A outer s H E) e t ∧ t (startF N vs ws) H Q) :
    LOk P w K mg base (k + 1) f F e ps fr sp := by
  refine ⟨len, fun A outer s H us vs ws Q E hr e0 hf hc C r hsp => ?_⟩
  have hl := len _ _ _ _ _ hsp
  have lim : s.heap.NoLimit := e0.mod.nolimit.keeps fun b o e => (e0.bs b o e).1
  obtain ⟨pm, ctv, ho⟩ := lamO_at e0.hok hf
  refine PySem.W.kla_callFunE hr.depth ho rfl S.co S.gen rfl (codeO_at e0.hok hc) ?_
  rw [hb pm ctv us (by rw [← r.length]; exact hl)]
  refine wpAny_pure (wpAny_newFunctionEnv S.nocell (fun ⟨n, _⟩ hy => S.par n (List.of_mem_zip hy).1) (fun h₁ hns hsb => ⟨lim.fresh _ hsb, ?_⟩) S.kind)
  show codeAny _ _ (.expr e (envF F f s.heap.objs.size)) _ _
  have kp : ∀ b o, s.heap.get? b = some o → h₁.get? b = some o := fun b o e => hsb.extBut b o (Nat.ne_of_lt (Heap.lt_size e)) (Heap.get?_push_of_some _ e)
  obtain ⟨t, ht, hq⟩ := hbody A outer s H vs ws Q E (hr.deeper _) C.len hsp
  have I : Inv (ncx CX0 P w K mg base N F f A outer s H E) [] (startF N vs ws) H { s with heap := h₁, toks := s.toks + (ps.zip us).length } := inv_startN S hr.hd e0 hl r C hns kp
  refine PySem.W.kla_codeExpr (wpAny_mono (ht.run [] _ (startF N vs ws) H Q I hq) (fun v s' hs => ?_) fun e s' hs => hs)
  obtain ⟨x, H', J, rv, q⟩ := hs
  exact ⟨x, H', J.os, J.bare, J.base, J.hok, rv, q⟩
end
theorem cells_un {cl : List (Str × Addr)} {fr : List Str} {ws : List (Option V)} {fs : List Addr} {H H1 : Hp} {h h1 : Heap} (C : CellsAt cl fr ws h H) (u : Un fs [] H H1 h h1) : CellsAt cl fr ws h1 H1 := by
  have kp : ∀ y c, cl.lookup y = some c → ∀ v, h.IsCell c v → h1.IsCell c v := fun y c e v ⟨o, ho, hd⟩ => by
    obtain ⟨sl, q⟩ := u.any ho (C.all y c e).1 (by simp)
    exact ⟨_, q, hd⟩
  refine ⟨C.len, fun y c e => ?_, C.inj, fun i y e => ?_⟩
  · obtain ⟨n, v, z⟩ := C.all y c e
    refine ⟨?_, v, kp y c e v z⟩
    obtain ⟨o, ho, _⟩ := z
    exact u.free c o ho n (by simp)
  · obtain ⟨c, hc, hv⟩ := C.has i y e
    refine ⟨c, hc, fun v ev => ?_⟩
    obtain ⟨u, r, z⟩ := hv v ev
    exact ⟨u, r, kp y c hc _ z⟩
abbrev EN : XK := fun _ _ _ => False
/-- f may be called, with the promise sp, in all that comes behind (s0, H0) -/
structure Callee (P : Program) (w : World) (K : PySem.W.Frag) (mg : Str → Option Value) (base : Heap) (k : Nat) (f : Addr) (sp : Sp) (s0 : Shared) (H0 : Hp) : Prop where
  fn : ∀ (H : Hp) (h : Heap), HOk P w H h → K.In h → ExtN H0 H → PySem.W.FnAt f h
  run : ∀ (A : Around) (outer : List Env) (s : Shared) (H : Hp) (us : List Value) (vs : List V) (Q : VK) (fs : List Addr), Room k A → Env0 P w K mg base A outer s H → Un fs [] H0 H s0.heap s.heap → ExtN H0 H → Vals vs us → sp vs H Q EN →
    codeAny (model P w) A (.call (.ref f) ⟨us, []⟩) (CR CX0 outer P w H s Q EN) s
section
variable {P : Program} {w : World} {K : PySem.W.Frag} {mg : Str → Option Value} {base : Heap} {k : Nat} {f : Addr} {s0 : Shared} {H0 : Hp}
theorem callee_def {x qual : Str} {params : Arguments} {body : List Stmt} {sc : Scope} {dvs : List V} {kws : List (Str × V)} {fd : FuncData} {ps : List Str} {sp : Sp} (F : FunD K x qual params body sc dvs kws f fd) (G : FnOk P w K mg base CX0 k f fd ps sp) (hb : Binds K fd ps []) :
    Callee P w K mg base k f sp s0 H0 := by
  obtain ⟨oc, od, dV, kV, doc, pm, an, cd, ct, osl, rfl, lk, hc, _, _⟩ := F.ex
  refine ⟨fun H h _ hK _ => ⟨oc, od, _, osl, hK _ _ lk⟩, fun A outer s H us vs Q fs hr e0 _ _ r q => ?_⟩
  have hK : K.In s.heap := e0.mod.kin.keeps fun b o z => (e0.bs b o z).1
  have hl : (us ++ ([] : List Value)).length = ps.length := by
    rw [List.append_nil, ← r.length]
    exact G.len _ _ _ _ q
  have z := hb s us hK hl
  rw [List.append_nil] at z
  exact G.run A outer s H ⟨us, []⟩ us vs Q EN hr e0 z r q
theorem callee_lam {F : NF} {e : Expr} {ps fr : List Str} {sp : List (Option V) → Sp} {ws : List (Option V)} (L : LOk P w K mg base k f F e ps fr sp) (hf : H0 f = some (LamO f F e)) (hc : H0 F.c = some (CodeO F.c F.qual)) (C : CellsAt F.cl fr ws s0.heap H0) :
    Callee P w K mg base k f (sp ws) s0 H0 := by
  refine ⟨fun H h hok _ x => ?_, fun A outer s H us vs Q fs hr e0 u x r q => ?_⟩
  · obtain ⟨pm, ctv, ho⟩ := lamO_at hok (x _ _ hf lamO_ne)
    exact ⟨_, _, _, _, ho⟩
  · exact L.run A outer s H us vs ws Q EN hr e0 (x _ _ hf lamO_ne) (x _ _ hc codeO_ne) (cells_un C u) r q
end
section
variable {X : Cx} {k i : Nat} {f : Addr} {sp : Sp} {x : Str} {p pos : Pos} {e : Expr} {es : List Expr} {t : TA}
/-- a(..) in the def that got it -/
def tCle (i : Nat) (f : Addr) (sp : Sp) (H0 : Hp) (t : TA) : TE := fun σ H Q => σ[i]? = some (some (.ref f)) ∧ ExtN H0 H ∧ t σ H fun vs H1 => ExtN H0 H1 ∧ sp vs H1 Q EN
theorem pe_cle (C : Callee X.prog X.w X.K X.mg X.base k f sp X.s_0 X.H_0) (hex : X.ex = []) (hr : Room k X.A) (hN : X.N[i]? = some x) (hv : Vis X.env.scope x) (ha : PA X (e :: es) t)
    (hd : (x == ("__debug__" : Str)) = false := by decide) (hcd : (x == ("__classdict__" : Str)) = false := by decide)
    (he : starEach (e :: es) X.env = (false, eval e X.env) :: starEach es X.env := by rfl) (hpl : (backTo pos (starEach es X.env)).any (·.1) = false := by rfl) :
    PE X (.Call (.Name x p) (e :: es) [] pos) (tCle i f sp X.H_0 t) := by
  refine ⟨fun pins s σ H Q I h => ?_⟩
  obtain ⟨hs, hx, ht⟩ := h
  refine wpAny_Call_Name_kw (thn ((pe_var (pos := p) hN hv hd hcd).run pins s σ H (fun v H1 => v = .ref f ∧ H1 = H) I ⟨.ref f, hs, rfl, rfl⟩) fun u s1 ⟨v, H1, I1, r1, q1⟩ => ?_)
  obtain ⟨ev, eH⟩ := q1
  subst ev
  rw [eH] at I1
  obtain rfl : u = Value.ref f := r1
  refine PySem.W.callWith_F (first := []) (C.fn H s1.heap I1.hok I1.kIn hx) (thn (ha.run pos pins s1 σ H _ I1 ht) fun us s2 ⟨vs, H2, I2, r, hx2, q⟩ => ⟨C.fn H2 s2.heap I2.hok I2.kIn hx2, ?_⟩) he hpl
  show wpAny _ _ (call (.ref f) us) _ _ _
  have ub : Un X.fs [] X.H_0 H2 X.s_0.heap s2.heap := by
    have z := I2.base
    rw [hex] at z
    exact z
  refine wpAny_call (codeAny_mono (C.run X.A X.stack s2 H2 us vs Q X.fs hr I2.env0 ub hx2 r q) fun r s' hq => ?_)
  cases r with
  | error e => exact (show False from hq).elim
  | ok fl =>
    cases fl with
    | ret u => exact I2.after hq
    | next => exact False.elim hq
    | brk => exact False.elim hq
    | cont => exact False.elim hq
end
/-- as FnOk, the promise told of the very state -/
structure FnC (P : Program) (w : World) (K : PySem.W.Frag) (mg : Str → Option Value) (base : Heap) (k : Nat) (f : Addr) (fd : FuncData) (ps : List Str) (sp : Shared → List V → Hp → VK → Prop) : Prop where
  len : ∀ s vs H Q, sp s vs H Q → vs.length = ps.length
  run : ∀ (A : Around) (out : List Env) (s : Shared) (H : Hp) (us : List Value) (vs : List V) (Q : VK), Room k A → Env0 P w K mg base A out s H → BindsTo s fd ⟨us, []⟩ (ps.zip us) → Vals vs us → sp s vs H Q →
    codeAny (model P w) A (.call (.ref f) ⟨us, []⟩) (CR CX0 out P w H s Q EN) s
theorem FunD.okC {P : Program} {w : World} {K : PySem.W.Frag} {mg : Str → Option Value} {base : Heap} {x qual : Str} {params : Arguments} {body : List Stmt} {sc : Scope} {dvs : List V} {kws : List (Str × V)} {f : Addr} {fd : FuncData} {N ps : List Str} {k : Nat} {sp : Shared → List V → Hp → VK → Prop}
    (F : FunD K x qual params body sc dvs kws f fd) (S : FnScope N ps sc) (len : ∀ s vs H Q, sp s vs H Q → vs.length = ps.length)
    (B : ∀ (cd : Value) (A : Around) (out : List Env) (s : Shared) (H : Hp) (vs : List V) (Q : VK), Room k (A.deeper (envOfC qual sc s.heap.objs.size f cd)) → sp s vs H Q →
      ∃ t, PSs (cxOf CX0 P w K mg base N qual sc f cd A out s H EN) body t ∧ t { nx := fun _ H' => Q .non H', rt := Q } (start N vs) H) :
    FnC P w K mg base (k + 1) f fd ps sp := by
  obtain ⟨oc, od, dV, kV, doc, pm, an, cd, ct, osl, rfl, lk, hc, _, _⟩ := F.ex
  constructor
  · exact len
  intro A out s H us vs Q hR e0 hB hV hS
  have hn := len _ _ _ _ hS
  have hK : K.In s.heap := e0.mod.kin.keeps fun b o z => (e0.bs b o z).1
  have hL : s.heap.NoLimit := e0.mod.nolimit.keeps fun b o z => (e0.bs b o z).1
  have hk : ∀ y ∈ ps.zip us, sc.names.lookup y.1 = some .local ∨
      (sc.names.lookup y.1 = some .cell ∧ ((cellsFrom (s.heap.objs.size + 1) sc.names []).lookup y.1).isSome = true) := by
    rintro ⟨n, v⟩ hy
    rcases S.par n (List.of_mem_zip hy).1 with z | z
    · exact Or.inl z
    · exact Or.inr ⟨z, PySem.W.cellsFrom_some _ _ _ (Or.inl z)⟩
  refine codeAny_call_function hR.depth (hK _ _ lk) rfl S.co S.gen rfl (PySem.W.codeRec_of hK hc) (hB _ _ _ _ ?_)
  refine wpAny_newFunctionEnv_cells S.kind hk fun env hv s1 X1 => ?_
  subst hv
  refine ⟨hL.keeps X1.toInCall.keep, ?_⟩
  refine codeAny_func ?_
  obtain ⟨t, ht, hq⟩ := B cd A out s H vs Q (hR.deeper _) hS
  have J := inv_start (CX := CX0) (E := EN) S hR.hd e0 hn hV X1
  refine wpAny_mono (ht.run [] s1 (start N vs) H _ J hq) (fun fl s' z => ?_) (fun _ _ z => z)
  cases fl with
  | next =>
    obtain ⟨σ', H', I', q⟩ := z
    exact ⟨.non, H', I'.os, I'.bare, I'.base, I'.hok, rfl, q⟩
  | ret u =>
    obtain ⟨v, σ', H', I', rv, q⟩ := z
    exact ⟨v, H', I'.os, I'.bare, I'.base, I'.hok, rv, q⟩
  | brk => obtain ⟨_, _, _, q⟩ := z; exact q.elim
  | cont => obtain ⟨_, _, _, q⟩ := z; exact q.elim
section
variable {X : Cx} {k : Nat} {f : Addr} {fd : FuncData} {ps : List Str} {sp : Shared → List V → Hp → VK → Prop} {x : Str} {p pos : Pos} {e : Expr} {es : List Expr} {t : TA}
/-- g(.., lambda ..: .., ..): spX tells, of the running frame's names, what g then asks -/
theorem pe_callC {spX : L2.St → List V → Hp → VK → Prop} (F : FnC X.prog X.w X.K X.mg X.base k f fd ps sp) (tell : ∀ (pins : List (Addr × Obj)) (σ : L2.St) (H : Hp) (s : Shared) (vs : List V) (Q : VK), Inv X pins σ H s → spX σ vs H Q → sp s vs H Q)
    (hr : Room k X.A) (hg : Gl X x) (hm : X.mg x = some (.ref f)) (hk : PySem.W.keepIn X.K (.ref f) = true) (hb : Binds X.K fd ps [])
    (ha : PA X (e :: es) t) (hdb : (x == ("__debug__" : Str)) = false := by decide) (he : starEach (e :: es) X.env = (false, eval e X.env) :: starEach es X.env := by rfl) (hpl : (backTo pos (starEach es X.env)).any (·.1) = false := by rfl) :
    PE X (.Call (.Name x p) (e :: es) [] pos) (fun σ H Q => t σ H fun vs H1 => spX σ vs H1 Q) := by
  refine ⟨fun pins s σ H Q I h => ?_⟩
  refine wpAny_Call_Name_kw (ld_glob I hg hm ?_ hdb)
  refine PySem.W.callWith_K (h₀ := X.base) I.ok.mod.kin hk (thn (ha.run pos pins s σ H _ I h) fun us s1 ⟨vs, H1, I1, r, q⟩ => ⟨I1.kIn, ?_⟩) he hpl
  have q2 := tell pins σ H1 s1 vs Q I1 q
  have hl : (us ++ ([] : List Value)).length = ps.length := by
    rw [List.append_nil, ← r.length]
    exact F.len _ _ _ _ q2
  have z := hb s1 us I1.kIn hl
  rw [List.append_nil] at z
  refine wpAny_call (codeAny_mono (F.run X.A X.stack s1 H1 us vs Q hr I1.env0 z r q2) fun r s' hq => ?_)
  cases r with
  | error e => exact (show False from hq).elim
  | ok fl =>
    cases fl with
    | ret u => exact I1.after hq
    | next => exact False.elim hq
    | brk => exact False.elim hq
    | cont => exact False.elim hq
end
end Ly

namespace Ly
open PySem PySem.Spec PyProof.Rows L2 LamX
/-! laws whose defs make lambdas: their tables are known from the start, empty -/
def EmptyT : Obj := { cls := .none, data := .fields #[] }
/-- the law's own call, some tables being known -/
theorem lawT {P : Program} {w : World} {K : PySem.W.Frag} {mg mb : Str → Option Value} {CX : CXT} {k : Nat} {fa a : Addr} {fd : FuncData} {x : Str} {sp : Sp} {s : Shared} {vs : List Value} {ns : List Int} (cs : List (Addr × Addr))
    (hK : K.In s.heap) (hG : s.heap.Ns mainGlobals mg) (hB : s.heap.Ns builtinsNs mb) (hBB : ∀ x : Str, x ≠ "__name__" → mb x = bootBuiltins x) (hL : s.heap.NoLimit) (hg : s.gens = #[])
    (ht : ∀ c t, (c, t) ∈ cs → s.heap.get? t = some EmptyT ∧ K.lookup t = none ∧ PySem.W.CodeHd s.heap c t)
    (hbm : ∃ (m : Addr) (o : Obj), mg "__builtins__" = some (.ref m) ∧ m ≠ builtinsNs ∧ s.heap.get? m = some o ∧ o.cls = .type "module" ∧ o.dict = some builtinsNs ∧ o.data = .plain)
    (ha : s.heap.get? a = some { cls := .type "list", data := .seq vs.toArray }) (hi : IntsAre vs ns) (hl : ns.length ≤ sizeLine) (hR : Room k callerA)
    (F : ∀ base : Heap, K.In base → base.Ns mainGlobals mg → (∀ c t, (c, t) ∈ cs → TabB base mg c t) → FnG P w K mg base CX k fa fd [x] sp) (hb : ∀ (s : Shared) (u : Value), BindsTo s fd ⟨[u], []⟩ [(x, u)])
    (hsp : ∀ H : Hp, (∀ c t, (c, t) ∈ cs → H t = some (.tbl #[])) → SqL K H a (ns.map V.int) → sp [.ref a] H (fun v _ => v = .bl true) fun _ _ _ => False)
    (hCX : ∀ H e s', CX [] H s (fun _ _ _ => False) e s' → False) :
    codeAny (model P w) callerA (.call (.ref fa) ⟨[.ref a], []⟩) (fun r s' => r = .ok (.ret (.bool true)) ∧ OldK s.heap s'.heap ∧ s'.os = s.os ∧ AllBare s'.gens) s := by
  have tabEmpty : ∀ {t}, t ∈ cs.map Prod.snd → ∃ c, (c, t) ∈ cs := by
    intro t m
    obtain ⟨⟨c, u⟩, m2, e⟩ := List.mem_map.mp m
    have e : u = t := e
    exact ⟨c, e ▸ m2⟩
  have inTabs : ∀ {c t}, (c, t) ∈ cs → t ∈ cs.map Prod.snd := fun m => List.mem_map.mpr ⟨_, m, rfl⟩
  have aNot : a ∉ cs.map Prod.snd := by
    intro m
    obtain ⟨c, m⟩ := tabEmpty m
    have e := (ht c a m).1
    rw [ha] at e
    injection e with e
    injection e with _ _ e _
    cases e
  have go : ∀ H : Hp, (∀ c t, (c, t) ∈ cs → H t = some (.tbl #[])) → (∀ b, H b = none ∨ b ∈ cs.map Prod.snd ∨ (b = a ∧ ∃ o xs, H b = some (.frz o (.lst xs)))) → SqL K H a (ns.map V.int) → HOk P w H s.heap → ((∃ u, H a = some u) → K.lookup a = none) →
      codeAny (model P w) callerA (.call (.ref fa) ⟨[.ref a], []⟩) (fun r s' => r = .ok (.ret (.bool true)) ∧ OldK s.heap s'.heap ∧ s'.os = s.os ∧ AllBare s'.gens) s := by
    intro H hHt hO hS ok hKa
    have up : ∀ {b : Addr} {o : Obj}, s.heap.get? b = some o → H b = none → (hidT s.heap H).get? b = some o := fun z n => hidT_get z n
    -- what is neither the script nor a table is not told in H
    have other : ∀ {b : Addr} {o : Obj}, s.heap.get? b = some o → (∀ xs n, o.data ≠ .seq xs n) → o.data ≠ .fields #[] → H b = none := by
      intro b o z h1 h2
      rcases hO b with n | m | ⟨rfl, _⟩
      · exact n
      · obtain ⟨c, m⟩ := tabEmpty m
        have e := (ht c b m).1
        rw [z] at e
        injection e with e
        subst e
        exact absurd rfl h2
      · rw [ha] at z
        injection z with z
        subst z
        exact absurd rfl (h1 _ _)
    have dict : ∀ {b : Addr} {o : Obj} {es : Array DictEntry} {ep : Nat}, s.heap.get? b = some o → o.data = .dict es ep → H b = none := by
      intro b o es ep z d
      exact other z (fun xs n y => by rw [d] at y; cases y) fun y => by rw [d] at y; cases y
    have ns2 : ∀ {b : Addr} {m : Str → Option Value}, s.heap.Ns b m → (hidT s.heap H).Ns b m := by
      rintro b m ⟨o, es, ep, z, d, r⟩
      exact ⟨o, es, ep, up z (dict z d), d, r⟩
    have k2 : K.In (hidT s.heap H) := by
      intro b o z
      refine up (hK b o z) ?_
      rcases hO b with n | m | ⟨rfl, o', xs, q⟩
      · exact n
      · obtain ⟨c, m⟩ := tabEmpty m
        rw [(ht c b m).2.1] at z
        cases z
      · rw [hKa ⟨_, q⟩] at z
        cases z
    have m2 : Mod K mg (hidT s.heap H) := by
      obtain ⟨mc, l1, l2⟩ := hL
      exact ⟨k2, ns2 hG, ⟨mb, ns2 hB, hBB⟩, ⟨mc, ns2 l1, l2⟩⟩
    have none2 : ∀ b : Addr, b ∉ frs [] := fun b z => (List.not_mem_nil : b ∉ ([] : List Addr)) z
    have e0 : Env0 P w K mg (hidT s.heap H) callerA [] s H :=
      ⟨rfl, m2, fun b o z => of_hidT z, Nat.le_of_eq (hidT_size _ _), trivial, fun b z => absurd z (none2 b), ok, .of_eq hg⟩
    have tabs : ∀ c t, (c, t) ∈ cs → TabB (hidT s.heap H) mg c t := by
      intro c t m
      obtain ⟨h1, _, h3⟩ := ht c t m
      constructor
      · obtain ⟨o, us, file, tf, flags, tg, inF, text, tt, z, r1, r2, r3⟩ := h3
        refine ⟨o, us, file, tf, flags, tg, inF, text, tt, up z (other z (fun xs n y => by rw [r2] at y; cases y) fun y => ?_), r1, r2, r3⟩
        rw [r2] at y
        cases y
        simp at r3
      · obtain ⟨bm, o, b1, b2, b3, b4, b5, b6⟩ := hbm
        refine ⟨bm, o, b1, b2, ?_, ?_, up b3 (other b3 (fun xs n y => by rw [b6] at y; cases y) fun y => by rw [b6] at y; cases y), b4, b5, b6⟩
        · rintro rfl
          obtain ⟨o', es, ep, z, d, _⟩ := hG
          rw [b3] at z
          cases z
          rw [b6] at d
          cases d
        · rintro rfl
          rw [b3] at h1
          cases h1
          cases b6
      · rintro rfl
        obtain ⟨o', es, ep, z, d, _⟩ := hG
        rw [h1] at z
        cases z
        cases d
    refine codeAny_mono ((F _ k2 (ns2 hG) tabs).go callerA [] s H ⟨[.ref a], []⟩ [.ref a] [.ref a] _ _ rfl hR e0 (hb s (.ref a)) (.cons rfl .nil) (hsp H hHt hS)) ?_
    intro r s' z
    match r, z with
    | .error e, z => exact (hCX H e s' z).elim
    | .ok .next, z => exact z.elim
    | .ok .brk, z => exact z.elim
    | .ok .cont, z => exact z.elim
    | .ok (.ret u), z =>
      obtain ⟨v, H', os, bare, un, ok', rv, q⟩ := z
      have q : v = .bl true := q
      subst q
      have eu : u = Value.bool true := rv
      subst eu
      have stays : ∀ b o, b ∉ cs.map Prod.snd → s.heap.get? b = some o → s'.heap.get? b = some o := by
        intro b o nb z
        rcases hO b with n | m | ⟨_, o', xs, y⟩
        · exact un.keep b o z n (none2 b) (List.not_mem_nil)
        · exact absurd m nb
        · have y2 := (ok' b _ (un.frzs b o' _ y)).1
          rw [(ok b _ y).1] at z
          cases z
          exact y2
      have grows : ∀ c t, (c, t) ∈ cs → ∃ more : Array Value, s'.heap.get? t = some { cls := .none, data := .fields more } := by
        intro c t m
        obtain ⟨more, y⟩ := un.tbls t #[] (hHt c t m)
        exact ⟨_, ok' t _ y⟩
      refine ⟨rfl, ⟨fun b o z => ?_, fun b o z => ?_⟩, os, bare⟩
      · by_cases m : b ∈ cs.map Prod.snd
        · obtain ⟨c, m⟩ := tabEmpty m
          obtain ⟨h1, _, h3⟩ := ht c b m
          obtain ⟨more, y⟩ := grows c b m
          rw [h1] at z
          cases z
          exact Or.inr (Or.inl ⟨(h3.tab h1).isCodeTable, rfl, #[], more, rfl, by rw [Array.empty_append]; exact y⟩)
        · exact Or.inl (stays b o m z)
      · by_cases m : b ∈ cs.map Prod.snd
        · obtain ⟨c, m⟩ := tabEmpty m
          obtain ⟨more, y⟩ := grows c b m
          exact ⟨_, y⟩
        · exact ⟨o, stays b o m z⟩
  have rv : Vals (ns.map V.int) vs := vals_ints hi
  -- the heap as it is known at the start, with or without the script
  let H1 : Option HO → Hp := fun u b => if b = a then u else if b ∈ cs.map Prod.snd then some (.tbl #[]) else none
  have atA : ∀ u, H1 u a = u := fun u => if_pos rfl
  have atT : ∀ u c t, (c, t) ∈ cs → H1 u t = some (.tbl #[]) := by
    intro u c t m
    have ne : t ≠ a := fun e => aNot (e ▸ inTabs m)
    show (if t = a then u else _) = _
    rw [if_neg ne, if_pos (inTabs m)]
  have at_ : ∀ u b, b ≠ a → b ∉ cs.map Prod.snd → H1 u b = none := by
    intro u b ne nm
    show (if b = a then u else _) = _
    rw [if_neg ne, if_neg nm]
  match hk : K.lookup a with
  | some o =>
    have z := hK a o hk
    rw [ha] at z
    cases z
    refine go (H1 none) (atT none) (fun b => ?_) (Or.inr ⟨_, vs.toArray, _, hk, rfl, rfl, rfl, by rw [List.size_toArray, hi.length]; exact hl, by simpa using rv⟩) (fun b u z => ?_) fun ⟨u, z⟩ => ?_
    · by_cases e : b = a
      · exact Or.inl (by rw [e]; exact atA none)
      · by_cases m : b ∈ cs.map Prod.snd
        · exact Or.inr (Or.inl m)
        · exact Or.inl (at_ none b e m)
    · by_cases e : b = a
      · rw [e, atA] at z
        cases z
      · by_cases m : b ∈ cs.map Prod.snd
        · obtain ⟨c, m⟩ := tabEmpty m
          rw [atT none c b m] at z
          cases z
          exact (ht c b m).1
        · rw [at_ none b e m] at z
          cases z
    · rw [atA] at z
      cases z
  | none =>
    refine go (H1 (some (.frz { cls := .type "list", data := .seq vs.toArray } (.lst (ns.map V.int))))) (atT _) (fun b => ?_) (Or.inl (Or.inr ⟨_, atA _⟩)) (fun b u z => ?_) fun _ => hk
    · by_cases e : b = a
      · subst e
        exact Or.inr (Or.inr ⟨rfl, _, _, atA _⟩)
      · by_cases m : b ∈ cs.map Prod.snd
        · exact Or.inr (Or.inl m)
        · exact Or.inl (at_ _ b e m)
    · by_cases e : b = a
      · subst e
        rw [atA] at z
        cases z
        exact ⟨ha, by rw [List.length_map]; exact hl, vs, _, rv, ha⟩
      · by_cases m : b ∈ cs.map Prod.snd
        · obtain ⟨c, m⟩ := tabEmpty m
          rw [atT _ c b m] at z
          cases z
          exact (ht c b m).1
        · rw [at_ _ b e m] at z
          cases z
theorem walkT {l : PySem.W.OpenLaw} {n k : Nat} {q : Program} {loose : List Str} {XP : (Str → Option Value) → Heap → Prop} {YP : World → Heap → Prop} {d : DefRec} {CX : World → CXT} {x : Str}
    (hn : l.most = some n) (hn2 : n ≤ sizeLine) (hdf : d.params.defaults = []) (hR : Room k callerA)
    (F : ∀ (w : World) (mg : Str → Option Value) (fa : Addr) (h : Heap), YP w h → h.Ns mainGlobals mg → mg d.name = some (.ref fa) →
      ∃ (K : PySem.W.Frag) (fd : FuncData) (sp : Sp) (cs : List (Addr × Addr)), K.In h ∧ (∀ c t, (c, t) ∈ cs → h.get? t = some EmptyT ∧ K.lookup t = none ∧ PySem.W.CodeHd h c t) ∧ (∀ (s : Shared) (u : Value), BindsTo s fd ⟨[u], []⟩ [(x, u)]) ∧
        (∀ (H : Hp) (a : Addr) (ns : List Int), ns.length ≤ n → (∀ c t, (c, t) ∈ cs → H t = some (.tbl #[])) → SqL K H a (ns.map V.int) → sp [.ref a] H (fun v _ => v = .bl true) fun _ _ _ => False) ∧
        ∀ base : Heap, K.In base → base.Ns mainGlobals mg → (∀ c t, (c, t) ∈ cs → TabB base mg c t) → FnG l.prog w K mg base (CX w) k fa fd [x] sp)
    (hCX : ∀ (w : World) (H : Hp) (s : Shared) (e : Value) (s' : Shared), CX w [] H s (fun _ _ _ => False) e s' → False) :
    PySem.W.WalkO q loose XP YP l.row.toRowW d [] (fun f vs => PySem.call f vs) := by
  refine Att.attach_call hn hdf ?_
  intro w s₀ s mg mb fa o pm cd doc a vs ns G Y ho hd hcd hmg hobj hints hlen hg
  obtain ⟨K, fd, sp, cs, hK, ht, hb, hsp, hF⟩ := F w mg fa _ Y G.T.g hmg
  exact lawT cs hK G.T.g G.T.b G.T.builtins G.T.nolimit hg ht G.T.bmain hobj hints (Nat.le_trans hlen hn2) hR hF hb
    (fun H hH hS => hsp H a ns hlen hH hS) fun H e s' => hCX w H s e s'
/-! the facts of a top with tables -/
def partT (g : Addr → Option Obj) (n : Nat) : PySem.W.Frag := He.frT g (sysModules :: He.asD g n)
def tabsOk (g : Addr → Option Obj) (tf : List He.Defn) (K : PySem.W.Frag) : Bool := tf.all fun p => PySem.W.codeHdIn K (He.cT K p).1 (He.cT K p).2 && ((g (He.cT K p).2).map He.emptyTab).getD false
def seenT (n : Nat) (fa : List He.Fa) (fn : List He.DefD) (tf : List He.Defn) (ex : PySem.W.Frag → Bool) (g : Addr → Option Obj) : AlS :=
  (He.obsD fa fn (partT g n), sysB (partT g n) && (ex (partT g n) && tabsOk g tf (partT g n)))
structure SaysTb (fa : List He.Fa) (fn : List He.DefD) (tf : List He.Defn) (ex : PySem.W.Frag → Bool) (h : Heap) (K : PySem.W.Frag) : Prop where
  d : He.SaysD fa fn K
  sys : SysD K
  more : ex K = true
  tab : ∀ p ∈ tf, PySem.W.codeHdIn K (He.cT K p).1 (He.cT K p).2 = true ∧ K.lookup (He.cT K p).2 = none ∧ h.get? (He.cT K p).2 = some EmptyT
def hookTb (n : Nat) (fa : List He.Fa) (fn : List He.DefD) (tf : List He.Defn) (ex : PySem.W.Frag → Bool) : PySem.W.Hook where
  α := AlS
  obs := fun s => seenT n fa fn tf ex s.heap.get?
  val := fun _ => (He.valD fn, true)
  says := fun _ h => ∃ K : PySem.W.Frag, K.In h ∧ SaysTb fa fn tf ex h K
  of := fun _ s e => by
    have e1 : He.obsD fa fn (partT s.heap.get? n) = He.valD fn := congrArg (fun z : AlS => z.1) e
    have e2 : (sysB (partT s.heap.get? n) && (ex (partT s.heap.get? n) && tabsOk s.heap.get? tf (partT s.heap.get? n))) = true := congrArg (fun z : AlS => z.2) e
    simp only [Bool.and_eq_true] at e2
    obtain ⟨e3, e4, e5⟩ := e2
    refine ⟨_, He.frT_in, e1, sysB_ok e3, e4, fun p hp => ?_⟩
    have z := List.all_eq_true.mp e5 p hp
    rw [Bool.and_eq_true] at z
    obtain ⟨z1, z2⟩ := z
    refine ⟨z1, ?_⟩
    match q : s.heap.get? (He.cT (partT s.heap.get? n) p).2, z2 with
    | some o, z2 => exact ⟨He.frT_none q z2, by rw [He.emptyTab_eq z2]; rfl⟩
  keeps := fun _ _ _ ⟨K, hK, c⟩ k => ⟨K, PySem.W.Frag.In.keeps hK k, c.d, c.sys, c.more, fun p hp => let ⟨h1, h2, h3⟩ := c.tab p hp; ⟨h1, h2, k _ _ h3⟩⟩
theorem seenT_eq {n : Nat} {fa : List He.Fa} {fn : List He.DefD} {tf : List He.Defn} {ex : PySem.W.Frag → Bool} {g : Addr → Option Obj} {s : Shared} (h : ∀ a, g a = s.heap.get? a) :
    seenT n fa fn tf ex g = (hookTb n fa fn tf ex).obs s := by
  have e : g = s.heap.get? := funext h
  rw [e] <;> rfl
end Ly

namespace Ly
open PySem PySem.Spec PyProof.Rows L2
/-! WORLDS with gaps: KINDS without TIES have any couples -/
def TabV (ts : List Str) (t : Str × List (List Str)) : Prop := (∀ r ∈ t.2, ∃ x ∈ ts, ∃ y ∈ ts, r = [x, y]) ∧ t.2.Pairwise (fun a b => leR a b = true) ∧ t.2.Nodup ∧ t.2.length ≤ 63
theorem tabV_sub {ts : List Str} {k : Str} {cs rs : List (List Str)} (g : GoodC ts cs) (a : AscR cs) (s : rs.Sublist cs) : TabV ts (k, rs) := by
  refine ⟨fun r m => g.of r (s.subset m), ?_, g.once.sublist s, Nat.le_trans s.length_le g.few⟩
  have z := leR_asc cs
  rw [ascR_iff.mp a] at z
  exact z.sublist s
structure GoodV (W : Wld) : Prop where
  tiles : ∃ n, 1 ≤ n ∧ n ≤ 4 ∧ NamesOk (poolA ++ poolB) n W.tiles
  kinds : ∃ n, n ≤ 4 ∧ NamesOk wordsA n (W.tabs.map (·.1))
  cpl : ∀ t ∈ W.tabs, TabV W.tiles t
  marks : ∃ n, 1 ≤ n ∧ n ≤ 4 ∧ NamesOk placesA n W.marks
  ties : ∀ r ∈ W.ties, ∃ k ∈ W.tabs.map (·.1), ∃ x ∈ W.marks, ∃ y ∈ W.marks, r = [k, x, y]
  tieFew : W.ties.length ≤ 40
  told : ∀ r ∈ W.told, r ≠ [] ∧ r ∈ lotsR W.tiles
  toldFew : W.told.length ≤ 16
end Ly

namespace Ly
open PySem PySem.Spec PyProof.Rows L2
/-! ascending texts -/
theorem leS_eq (a b : Str) : leS a b = !PySem.Spec.ltCps b.cps.toList a.cps.toList := by
  show (!PyProof.Rows.lexLt PyProof.Rows.itemOrd (PySem.W.keyToks (.str b)) (PySem.W.keyToks (.str a))) = _
  simp only [PySem.W.keyToks, PyProof.Rows.lexLt, Bool.and_false, Bool.or_false]
  show (!decide (b.cps.toList < a.cps.toList)) = _
  rw [PyProof.Rows.ltCps_eq]
theorem leS_total : PySem.W.TotalLe leS := PySem.W.sortLe_total _ false _
theorem leS_anti {a b : Str} (h1 : leS a b = true) (h2 : leS b a = true) : a = b := by
  have e1 : (!PyProof.Rows.lexLt PyProof.Rows.itemOrd (PySem.W.keyToks (.str b)) (PySem.W.keyToks (.str a))) = true := h1
  have e2 : (!PyProof.Rows.lexLt PyProof.Rows.itemOrd (PySem.W.keyToks (.str a)) (PySem.W.keyToks (.str b))) = true := h2
  rw [Bool.not_eq_true'] at e1 e2
  have e := (PyProof.Rows.listOrd PyProof.Rows.itemOrd).total (PySem.W.keyToks (.str b)) (PySem.W.keyToks (.str a)) e1 e2
  simp only [PySem.W.keyToks, List.cons.injEq, Sum.inr.injEq, and_true] at e
  obtain ⟨c1⟩ := a
  obtain ⟨c2⟩ := b
  have e3 : c2 = c1 := Array.toList_inj.mp e
  rw [e3]
theorem rising_pw : ∀ (r : List Str) (p : Str), risingS p r = true → (p :: r).Pairwise fun a b => leS a b = true
  | [], p, _ => List.pairwise_singleton _ _
  | x :: r, p, h => by
    have h : (!PySem.Spec.ltCps x.cps.toList p.cps.toList && risingS x r) = true := h
    rw [Bool.and_eq_true] at h
    have ih := rising_pw r x h.2
    have px : leS p x = true := by rw [leS_eq]; exact h.1
    refine List.pairwise_cons.mpr ⟨fun y m => ?_, ih⟩
    rcases List.mem_cons.mp m with rfl | m
    · exact px
    · exact leS_total.trans _ _ _ px ((List.pairwise_cons.mp ih).1 y m)
theorem sorted_pw {l : List Str} (h : sortedS l = true) : l.Pairwise fun a b => leS a b = true := by
  cases l with
  | nil => exact .nil
  | cons x r => exact rising_pw r x h
theorem ascS_eq {l k : List Str} (h1 : l.Pairwise fun a b => leS a b = true) (h2 : k.Pairwise fun a b => leS a b = true) (p : l.Perm k) : l = k :=
  List.Perm.eq_of_pairwise (le := fun a b => leS a b = true) (fun a b _ _ => leS_anti) h1 h2 p
theorem sortS_pw (L : List Str) : (L.mergeSort leS).Pairwise fun a b => leS a b = true := PySem.W.sort_pairwise leS_total L
/-- texts in order, each once, with the same members -/
theorem ascS_mem {l k : List Str} (h1 : l.Pairwise fun a b => leS a b = true) (h2 : k.Pairwise fun a b => leS a b = true) (n1 : l.Nodup) (n2 : k.Nodup) (m : ∀ x, x ∈ l ↔ x ∈ k) : l = k :=
  ascS_eq h1 h2 ((List.perm_ext_iff_of_nodup n1 n2).mpr m)
end Ly

namespace Ly
open PySem PySem.Spec PyProof.Rows L2
/-! data that may be shown and laid, and is small -/
theorem shownL_le {ds : List PyData} {B : Nat} (h : ∀ d ∈ ds, d.shown.length ≤ B) : (PyData.list ds).shown.length ≤ ds.length * (B + 2) + 3 := by
  simp only [PyData.shown]
  refine Nat.le_trans (listText_len_le _) ?_
  have : ∀ l : List PyData, (∀ d ∈ l, d.shown.length ≤ B) → ((PyData.shownAll l).map (·.length)).sum ≤ l.length * B ∧ (PyData.shownAll l).length = l.length := by
    intro l
    induction l with
    | nil => intro _; simp [PyData.shownAll]
    | cons d l ih =>
      intro h
      obtain ⟨h1, h2⟩ := ih fun d hd => h d (List.mem_cons_of_mem _ hd)
      have h3 := h d List.mem_cons_self
      simp only [PyData.shownAll, List.map_cons, List.sum_cons, List.length_cons, Nat.succ_mul]
      omega
  obtain ⟨h1, h2⟩ := this ds h
  rw [h2, Nat.mul_add]
  omega
theorem shownT_le {ds : List PyData} {B : Nat} (h : ∀ d ∈ ds, d.shown.length ≤ B) : (PyData.tuple ds).shown.length ≤ ds.length * (B + 2) + 3 := by
  simp only [PyData.shown]
  refine Nat.le_trans (tupleText_len_le _) ?_
  have : ∀ l : List PyData, (∀ d ∈ l, d.shown.length ≤ B) → ((PyData.shownAll l).map (·.length)).sum ≤ l.length * B ∧ (PyData.shownAll l).length = l.length := by
    intro l
    induction l with
    | nil => intro _; simp [PyData.shownAll]
    | cons d l ih =>
      intro h
      obtain ⟨h1, h2⟩ := ih fun d hd => h d (List.mem_cons_of_mem _ hd)
      have h3 := h d List.mem_cons_self
      simp only [PyData.shownAll, List.map_cons, List.sum_cons, List.length_cons, Nat.succ_mul]
      omega
  obtain ⟨h1, h2⟩ := this ds h
  rw [h2, Nat.mul_add]
  omega
theorem depthA_le {n : Nat} : ∀ {ds : List PyData}, (∀ d ∈ ds, d.depth ≤ n) → PyData.depthAll ds ≤ n
  | [], _ => by simp [PyData.depthAll]
  | d :: ds, h => by
    have h1 := h d List.mem_cons_self
    have h2 := depthA_le fun d hd => h d (List.mem_cons_of_mem _ hd)
    simp only [PyData.depthAll]
    omega
theorem showA_of {ds : List PyData} (h : ∀ d ∈ ds, d.showable = true) : PyData.showableAll ds = true := by
  induction ds with
  | nil => rfl
  | cons d ds ih => simp only [PyData.showableAll, h d List.mem_cons_self, ih fun d hd => h d (List.mem_cons_of_mem _ hd), Bool.and_self]
theorem layA_of {ds : List PyData} (h : ∀ d ∈ ds, d.canLay0 = true) : PyData.canLayAll0 ds = true := by
  induction ds with
  | nil => rfl
  | cons d ds ih => simp only [PyData.canLayAll0, h d List.mem_cons_self, ih fun d hd => h d (List.mem_cons_of_mem _ hd), Bool.and_self]
/-- texts of at most B signs, at most n deep -/
structure OkD (B n : Nat) (d : PyData) : Prop where
  lay : d.canLay0 = true
  show_ : d.showable = true
  len : d.shown.length ≤ B
  deep : d.depth ≤ n
theorem OkD.mono {B C n m : Nat} {d : PyData} (h : OkD B n d) (h1 : B ≤ C) (h2 : n ≤ m) : OkD C m d := ⟨h.lay, h.show_, Nat.le_trans h.len h1, Nat.le_trans h.deep h2⟩
theorem OkD.tuple {B n k C m : Nat} {ds : List PyData} (h : ∀ d ∈ ds, OkD B n d) (hl : ds.length ≤ k) (hC : k * (B + 2) + 3 ≤ C) (hm : n + 1 ≤ m) : OkD C m (.tuple ds) := by
  refine ⟨?_, ?_, ?_, ?_⟩
  · simp only [PyData.canLay0]
    exact layA_of fun d hd => (h d hd).lay
  · simp only [PyData.showable]
    exact showA_of fun d hd => (h d hd).show_
  · refine Nat.le_trans (shownT_le fun d hd => (h d hd).len) (Nat.le_trans ?_ hC)
    have := Nat.mul_le_mul_right (B + 2) hl
    omega
  · simp only [PyData.depth]
    have := depthA_le fun d hd => (h d hd).deep
    omega
theorem OkD.list {B n k C m : Nat} {ds : List PyData} (h : ∀ d ∈ ds, OkD B n d) (hl : ds.length ≤ k) (hC : k * (B + 2) + 3 ≤ C) (hm : n + 1 ≤ m) : OkD C m (.list ds) := by
  refine ⟨?_, ?_, ?_, ?_⟩
  · simp only [PyData.canLay0]
    exact layA_of fun d hd => (h d hd).lay
  · simp only [PyData.showable]
    exact showA_of fun d hd => (h d hd).show_
  · refine Nat.le_trans (shownL_le fun d hd => (h d hd).len) (Nat.le_trans ?_ hC)
    have := Nat.mul_le_mul_right (B + 2) hl
    omega
  · simp only [PyData.depth]
    have := depthA_le fun d hd => (h d hd).deep
    omega
theorem OkD.shaped {B n : Nat} {d : PyData} (h : OkD B n d) (hn : n ≤ 10) : SeqAt.shaped d = true := by
  unfold SeqAt.shaped
  have := h.deep
  rw [h.lay, Bool.true_and, decide_eq_true_eq]
  omega
def allNames : List Str := poolA ++ poolB ++ placesA ++ wordsA
theorem okd_name : ∀ x ∈ allNames, OkD 30 0 (.str x) := by
  have h : ∀ x ∈ allNames, (PyData.str x).canLay0 = true ∧ (PyData.str x).showable = true ∧ (PyData.str x).shown.length ≤ 30 ∧ (PyData.str x).depth ≤ 0 := by decide +kernel
  intro x hx
  obtain ⟨h1, h2, h3, h4⟩ := h x hx
  exact ⟨h1, h2, h3, h4⟩
theorem okd_bool (b : Bool) : OkD 30 0 (.bool b) := by
  have h : ∀ b : Bool, (PyData.bool b).canLay0 = true ∧ (PyData.bool b).showable = true ∧ (PyData.bool b).shown.length ≤ 30 ∧ (PyData.bool b).depth ≤ 0 := by decide +kernel
  obtain ⟨h1, h2, h3, h4⟩ := h b
  exact ⟨h1, h2, h3, h4⟩
theorem okd_row {r : List Str} (h : ∀ x ∈ r, x ∈ allNames) (hl : r.length ≤ 4) : OkD 150 1 (rowD r) :=
  OkD.tuple (k := 4) (fun d hd => by
    obtain ⟨x, hx, rfl⟩ := List.mem_map.mp hd
    exact okd_name x (h x hx)) (by rw [List.length_map]; exact hl) (by decide) (by decide)
theorem okd_rows {rs : List (List Str)} (h : ∀ r ∈ rs, ∀ x ∈ r, x ∈ allNames) (hl : ∀ r ∈ rs, r.length ≤ 4) (hn : rs.length ≤ 63) : OkD 10000 2 (.tuple (rs.map rowD)) :=
  OkD.tuple (k := 63) (fun d hd => by
    obtain ⟨r, hr, rfl⟩ := List.mem_map.mp hd
    exact okd_row (h r hr) (hl r hr)) (by rw [List.length_map]; exact hn) (by decide) (by decide)
theorem NamesOk.all {all zs : List Str} {n : Nat} (h : NamesOk all n zs) (s : ∀ x ∈ all, x ∈ allNames) : ∀ x ∈ zs, x ∈ allNames := fun x m => s x (h.of x m)
section
variable {W : Wld} (g : GoodV W)
include g
theorem GoodV.tileN : ∀ x ∈ W.tiles, x ∈ allNames := let ⟨_, _, _, h⟩ := g.tiles; h.all fun x m => List.mem_append_left _ (List.mem_append_left _ m)
theorem GoodV.kindN : ∀ x ∈ W.tabs.map (·.1), x ∈ allNames := let ⟨_, _, h⟩ := g.kinds; h.all fun x m => List.mem_append_right _ m
theorem GoodV.markN : ∀ x ∈ W.marks, x ∈ allNames := let ⟨_, _, _, h⟩ := g.marks; h.all fun x m => List.mem_append_left _ (List.mem_append_right _ m)
theorem GoodV.tileL : W.tiles.length ≤ 4 := let ⟨_, _, h, o⟩ := g.tiles; by rw [o.len]; exact h
theorem GoodV.tileNe : W.tiles ≠ [] := let ⟨_, h, _, o⟩ := g.tiles; fun z => by
  have e := o.len
  rw [z, List.length_nil] at e
  omega
theorem GoodV.tileOnce : W.tiles.Nodup := let ⟨_, _, _, o⟩ := g.tiles; o.once
theorem GoodV.tileAsc : W.tiles.Pairwise fun a b => leS a b = true := let ⟨_, _, _, o⟩ := g.tiles; sorted_pw o.asc
theorem GoodV.tileOk : Oks W.tiles := fun x m => oks_all x (g.tileN x m)
theorem GoodV.kindOnce : (W.tabs.map (·.1)).Nodup := let ⟨_, _, o⟩ := g.kinds; o.once
theorem GoodV.kindL : W.tabs.length ≤ 4 := let ⟨_, h, o⟩ := g.kinds; by
  have e := o.len
  rw [List.length_map] at e
  omega
theorem GoodV.toldSub {r : List Str} (m : r ∈ W.told) : r ≠ [] ∧ r.Sublist W.tiles := ⟨(g.told r m).1, lotsR_mem _ _ (g.told r m).2⟩
theorem GoodV.two {t : Str × List (List Str)} (mt : t ∈ W.tabs) : ∀ r ∈ t.2, ∃ x y, r = [x, y] := fun r m =>
  let ⟨x, _, y, _, e⟩ := (g.cpl t mt).1 r m
  ⟨x, y, e⟩
theorem GoodV.cplN {t : Str × List (List Str)} (mt : t ∈ W.tabs) : ∀ r ∈ t.2, ∀ z ∈ r, z ∈ W.tiles := fun r m z mz => by
  obtain ⟨x, mx, y, my, rfl⟩ := (g.cpl t mt).1 r m
  simp only [List.mem_cons, List.not_mem_nil, or_false] at mz
  rcases mz with rfl | rfl
  · exact mx
  · exact my
theorem GoodV.few {t : Str × List (List Str)} (mt : t ∈ W.tabs) : t.2.length ≤ 1000 := Nat.le_trans (g.cpl t mt).2.2.2 (by decide)
theorem GoodV.okd : OkD 1100000 5 W.d := by
  have r4 : ∀ r : List Str, r.Sublist W.tiles → r.length ≤ 4 := fun r s => Nat.le_trans s.length_le g.tileL
  have h1 : OkD 200000 4 (rowD W.tiles) := (okd_row g.tileN g.tileL).mono (by decide) (by decide)
  have h2 : OkD 200000 4 (.tuple (W.tabs.map tabD)) := by
    refine OkD.tuple (B := 30000) (n := 3) (k := 4) (fun d hd => ?_) (by rw [List.length_map]; exact g.kindL) (by decide) (by decide)
    obtain ⟨t, mt, rfl⟩ := List.mem_map.mp hd
    refine OkD.tuple (B := 10000) (n := 2) (k := 2) (fun d hd => ?_) (by simp) (by decide) (by decide)
    simp only [List.mem_cons, List.not_mem_nil, or_false] at hd
    rcases hd with rfl | rfl
    · exact (okd_name t.1 (g.kindN t.1 (List.mem_map.mpr ⟨t, mt, rfl⟩))).mono (by decide) (by decide)
    · refine okd_rows (fun r m z mz => g.tileN z (g.cplN mt r m z mz)) (fun r m => ?_) (g.cpl t mt).2.2.2
      obtain ⟨x, y, rfl⟩ := g.two mt r m
      simp
  have h3 : OkD 200000 4 (rowD W.marks) := (okd_row g.markN (let ⟨_, _, h, o⟩ := g.marks; by rw [o.len]; exact h)).mono (by decide) (by decide)
  have h4 : OkD 200000 4 (.tuple (W.ties.map rowD)) := (okd_rows (fun r m z mz => by
    obtain ⟨k, mk, x, mx, y, my, rfl⟩ := g.ties r m
    simp only [List.mem_cons, List.not_mem_nil, or_false] at mz
    rcases mz with rfl | rfl | rfl
    · exact g.kindN _ mk
    · exact g.markN _ mx
    · exact g.markN _ my) (fun r m => by
    obtain ⟨k, mk, x, mx, y, my, rfl⟩ := g.ties r m
    simp) (Nat.le_trans g.tieFew (by decide))).mono (by decide) (by decide)
  have h5 : OkD 200000 4 (.tuple (W.told.map rowD)) := (okd_rows (fun r m z mz => g.tileN z ((g.toldSub m).2.subset mz)) (fun r m => r4 r (g.toldSub m).2) (Nat.le_trans g.toldFew (by decide))).mono (by decide) (by decide)
  refine OkD.tuple (B := 200000) (n := 4) (k := 5) (fun d hd => ?_) (by simp) (by decide) (by decide)
  simp only [List.mem_cons, List.not_mem_nil, or_false] at hd
  rcases hd with rfl | rfl | rfl | rfl | rfl
  · exact h1
  · exact h2
  · exact h3
  · exact h4
  · exact h5
end
theorem OkD.line {B n : Nat} {d : PyData} (h : OkD B n d) (hB : B ≤ 2000000) : d.shown.length ≤ sizeLine := by
  refine Nat.le_trans h.len (Nat.le_trans hB ?_)
  rw [sizeLine_eq]
  decide
/-! heaps in which a dict is written -/
section
variable {K : PySem.W.Frag} {H : Hp} {D a : Addr} {o : HO} {kvs : List (Key × V)}
theorem seqT_dk {ys : List V} (hD : H D = some (.dK kvs)) (h : SqT K H a ys) : SqT K (upd H D o) a ys := by
  rcases h with (e | ⟨u, e⟩) | e
  · exact .inl (.inl (by rw [upd_ne (ne_of e hD (by simp))]; exact e))
  · exact .inl (.inr ⟨u, by rw [upd_ne (ne_of e hD (by simp))]; exact e⟩)
  · exact .inr e
mutual
theorem Dq.dk (hD : H D = some (.dK kvs)) : ∀ {v : V} {d : PyData}, Dq K H v d → tupD d = true → Dq K (upd H D o) v d
  | _, _, .non, _ => .non
  | _, _, .bl b, _ => .bl b
  | _, _, .int i, _ => .int i
  | _, _, .str x, _ => .str x
  | _, _, .lst _ _, f => by simp [tupD] at f
  | _, _, .tup hs ha, f => .tup (seqT_dk hD hs) (DqA.dk hD ha (by simpa [tupD] using f))
  | _, _, .dic _ _, f => by simp [tupD] at f
theorem DqA.dk (hD : H D = some (.dK kvs)) : ∀ {vs : List V} {ds : List PyData}, DqA K H vs ds → tupDs ds = true → DqA K (upd H D o) vs ds
  | _, _, .nil, _ => .nil
  | _, _, .cons h1 h2, f => by
    simp only [tupDs, Bool.and_eq_true] at f
    exact .cons (Dq.dk hD h1 f.1) (DqA.dk hD h2 f.2)
end
theorem Plt.dk {xs : List V} {t : Addr} (hD : H D = some (.dK kvs)) (h : Plt H t xs) : Plt (upd H D o) t xs := by
  obtain ⟨z, e, r⟩ := h
  refine ⟨z, ?_, r⟩
  rw [upd_ne fun w => ?_]
  · exact e
  · rw [w, hD] at e
    cases e
theorem TbA.dk {v : V} {tabs : List (Str × List (List Str))} (hD : H D = some (.dK kvs)) (h : TbA K H v tabs) : TbA K (upd H D o) v tabs := by
  obtain ⟨tb, vs, e, z, h⟩ := h
  exact ⟨tb, vs, e, z.dk hD, DqA.dk hD h (tup_tabs _)⟩
theorem WAt.dk {p : Addr} {W : Wld} (hD : H D = some (.dK kvs)) (h : WAt K H p W) : WAt K (upd H D o) p W := by
  obtain ⟨v0, v1, v2, v3, v4, x⟩ := h
  exact ⟨v0, v1, v2, v3, v4, seqT_dk hD x.sq, x.tiles.dk hD (tup_row _), x.tabs.dk hD, x.marks.dk hD (tup_row _), x.ties.dk hD (by show tupDs _ = true; exact tup_rows _), x.told.dk hD (by show tupDs _ = true; exact tup_rows _)⟩
theorem TabK.dk {ks : List (Key × V)} {tabs : List (Str × List (List Str))} (hD : H D = some (.dK kvs)) (T : TabK K H ks tabs) : TabK K (upd H D o) ks tabs :=
  ⟨T.len, fun i t e => let ⟨c, a, d⟩ := T.at_ i t e; ⟨c, a, d.dk hD (by show tupDs _ = true; exact tup_rows _)⟩, T.keys⟩
theorem Same.back {H' : Hp} {u : HO} (hD : H D = some u) (s : Same (upd H D o) H') : Same H (upd H' D u) := fun c x e => by
  by_cases h : c = D
  · subst h
    rw [upd_same, ← hD]
    exact e
  · rw [upd_ne h]
    exact s c x (by rw [upd_ne h]; exact e)
end
end Ly

namespace Ly
open PySem PySem.Spec PyProof.Rows L2 LamX
/-! what stands where tables may grow -/
section
variable {K : PySem.W.Frag} {H H' : Hp} {a : Addr} {xs : List V}
theorem Same.ext (s : Same H H') : ExtN H H' := ExtN.of s
theorem seqT_ext (e : ExtN H H') (h : SqT K H a xs) : SqT K H' a xs := by
  rcases h with (q | ⟨u, q⟩) | q
  · exact .inl (.inl (e _ _ q fun ps z => by cases z))
  · exact .inl (.inr ⟨u, e _ _ q fun ps z => by cases z⟩)
  · exact .inr q
theorem seqL_ext (e : ExtN H H') (h : SqL K H a xs) : SqL K H' a xs := by
  rcases h with (q | ⟨u, q⟩) | q
  · exact .inl (.inl (e _ _ q fun ps z => by cases z))
  · exact .inl (.inr ⟨u, e _ _ q fun ps z => by cases z⟩)
  · exact .inr q
theorem Callee.mono {P : Program} {w : World} {mg : Str → Option Value} {base : Heap} {j k : Nat} {f : Addr} {sp : Sp} {s0 : Shared} {H0 : Hp} (C : Callee P w K mg base j f sp s0 H0) (h : j ≤ k) : Callee P w K mg base k f sp s0 H0 :=
  ⟨C.fn, fun A outer s H us vs Q fs hr => C.run A outer s H us vs Q fs (hr.mono h)⟩
end
/-! rows, one by one: good, and each key beyond the one before it -/
def fbB (good : V → Bool) (key : V → Str) : List V → Option Str → Bool
  | [], _ => true
  | x :: r, p => good x && ((match p with | none => true | some q => decide (q.cps.toList < (key x).cps.toList)) && fbB good key r (some (key x)))
def prevOf (key : V → Str) (xs : List V) : Nat → Option Str
  | 0 => none
  | i + 1 => (xs[i]?).map key
theorem fbB_step {good : V → Bool} {key : V → Str} {xs : List V} {i : Nat} {x : V} (h : xs[i]? = some x) :
    fbB good key (xs.drop i) (prevOf key xs i) = (good x && ((match prevOf key xs i with | none => true | some q => decide (q.cps.toList < (key x).cps.toList)) && fbB good key (xs.drop (i + 1)) (prevOf key xs (i + 1)))) := by
  have lt := (List.getElem?_eq_some_iff.mp h).1
  have e : xs.drop i = x :: xs.drop (i + 1) := by
    rw [List.drop_eq_getElem_cons lt]
    congr 1
    exact (List.getElem?_eq_some_iff.mp h).2
  rw [e]
  show (good x && (_ && fbB good key (xs.drop (i + 1)) (some (key x)))) = _
  have e2 : prevOf key xs (i + 1) = some (key x) := by
    show (xs[i]?).map key = _
    rw [h]
    rfl
  rw [e2]
end Ly

namespace Ly
open PySem PySem.Spec PyProof.Rows L2 LamX
/-! data where tables may grow; () compared with any tuple -/
section
variable {K : PySem.W.Frag} {H H' : Hp}
mutual
theorem Dq.ext (e : ExtN H H') : ∀ {v : V} {d : PyData}, Dq K H v d → Dq K H' v d
  | _, _, .non => .non
  | _, _, .bl b => .bl b
  | _, _, .int i => .int i
  | _, _, .str x => .str x
  | _, _, .lst hs ha => .lst (seqL_ext e hs) (DqA.ext e ha)
  | _, _, .tup hs ha => .tup (seqT_ext e hs) (DqA.ext e ha)
  | _, _, .dic hs ha => .dic (e _ _ hs fun ps z => by cases z) (DqA.ext e ha)
theorem DqA.ext (e : ExtN H H') : ∀ {vs : List V} {ds : List PyData}, DqA K H vs ds → DqA K H' vs ds
  | _, _, .nil => .nil
  | _, _, .cons h1 h2 => .cons (Dq.ext e h1) (DqA.ext e h2)
end
end
theorem reads_len {h : Heap} : ∀ {vs : List Value} {ds : List PyData} {as : List Addr}, ReadsAll h vs ds as → vs.length = ds.length
  | [], [], _, _ => rfl
  | [], _ :: _, _, h => nomatch h
  | _ :: _, [], _, h => nomatch h
  | _ :: _, _ :: _, _, .cons _ h2 => congrArg Nat.succ (reads_len h2)
/-- thing == (), thing any tuple -/
def rEq0 (K : PySem.W.Frag) : R2 := fun x y H Q => ∃ (a b : Addr) (ds : List PyData), x = .ref a ∧ y = .ref b ∧ Dq K H (.ref a) (.tuple ds) ∧ SqT K H b [] ∧ Q (.bl (decide (ds = []))) H
theorem op_eq0 {X : Cx} (hS : SysD X.K) (hu : X.A.units + 64 < cLine) : OpR X (compareOp .Eq) (rEq0 X.K) := by
  intro pins s σ H x y v u Q I rx ry h
  obtain ⟨a, b, ds, rfl, rfl, dx, hy, q⟩ := h
  obtain ⟨as, rd, _⟩ := Dq.reads hS I dx rx
  obtain ⟨bs, rd', _⟩ := Dq.reads hS I (row_is (r := []) hy) ry
  cases rx
  cases ry
  cases rd with
  | tuple h1 h2 h3 h4 =>
    rename_i o vs n
    cases rd' with
    | tuple g1 g2 g3 g4 =>
      rename_i o' vs' n'
      have e0 : vs' = #[] := by
        have z := reads_len g4
        apply Array.eq_empty_of_size_eq_zero
        rw [← Array.length_toList]
        simpa using z
      subst e0
      refine SeqAt.eq_tupleAt (e := fun _ => true) ⟨_, h1, h2, _, h3⟩ ⟨_, g1, g2, _, g3⟩ (by omega) (fun j h1 h2 => absurd h2 (Nat.not_lt_zero _)) ⟨.bl _, H, I, rfl, ?_⟩
      have l := reads_len h4
      have e : ((List.range (min vs.size (#[] : Array Value).size)).all (fun _ => true) && vs.size == (#[] : Array Value).size) = decide (ds = []) := by
        have : vs.size = ds.length := by rw [← Array.length_toList]; exact l
        rw [this]
        cases ds <;> simp
      rw [e]
      exact q
/-- a text that is one of these -/
def oneOf (ts : List Str) : V → Bool
  | .str t => decide (t ∈ ts)
  | _ => false
theorem oneOf_eq {K : PySem.W.Frag} {H : Hp} {v : V} {d : PyData} (ts : List Str) (h : Dq K H v d) : inTx d ts = oneOf ts v := by
  cases h <;> rfl
theorem isS_of {K : PySem.W.Frag} {H : Hp} {v : V} {d : PyData} (h : Dq K H v d) : isS d = (match v with | .str _ => true | _ => false) := by
  cases h <;> rfl
def keyV : V → Str
  | .str t => t
  | _ => ⟨#[]⟩
/-- ascending texts, all of them told -/
def lotB (ts : List Str) : PyData → Bool
  | .tuple ds => !decide (ds = []) && fbB (oneOf ts) keyV (ds.map fun d => match d with | .str t => .str t | _ => .non) none
  | _ => false
theorem isT_tup {d : PyData} (h : isT d = true) : ∃ ds, d = .tuple ds := by
  cases d <;> first | exact ⟨_, rfl⟩ | cases h
theorem lotB_not {ts : List Str} {d : PyData} (h : isT d = false) : lotB ts d = false := by
  cases d <;> first | rfl | cases h
theorem fb_congr {ts : List Str} {K : PySem.W.Frag} {H : Hp} : ∀ {xs : List V} {ds : List PyData} (p : Option Str), DqA K H xs ds → fbB (oneOf ts) keyV xs p = fbB (oneOf ts) keyV (ds.map fun d => match d with | .str t => .str t | _ => .non) p
  | _, _, _, .nil => rfl
  | _, _, p, .cons (v := v) (vs := vs) (d := d) (ds := ds) h1 h2 => by
    have e := fb_congr (ts := ts) (some (keyV v)) h2
    cases h1 <;> first | rfl | (simp only [List.map_cons, fbB]; first | rw [e] | rfl)
theorem lot_fb {ts : List Str} {K : PySem.W.Frag} {H : Hp} {xs : List V} {ds : List PyData} (h : DqA K H xs ds) : lotB ts (.tuple ds) = (!decide (ds = []) && fbB (oneOf ts) keyV xs none) := by
  rw [fb_congr none h]
  rfl
end Ly

namespace Ly
open PySem PySem.Spec PyProof.Rows L2 LamX
/-! a row in a list of rows; WORLDS where tables grow -/
def rInRowL (K : PySem.W.Frag) : R2 := fun x y H Q => ∃ (r : List Str) (rs : List (List Str)), Dq K H x (rowD r) ∧ Dq K H y (.list (rs.map rowD)) ∧ Oks r ∧ (∀ q ∈ rs, Oks q) ∧ Q (.bl (decide (r ∈ rs))) H
theorem op_inRowL {X : Cx} (hu : X.A.units + 64 < cLine) : OpR X (compareOp .In) (rInRowL X.K) := fun pins s σ H x y v u Q I rx ry h => by
  obtain ⟨r, rs, h1, h2, h3, h4, q⟩ := h
  have s1 := shaped_row h3
  have s2 := shaped_rowsL h4
  obtain ⟨as, r1⟩ := Dp.reads I _ x v (h1.dp (SeqAt.canLay_of_shaped s1)) rx
  obtain ⟨bs, r2⟩ := Dp.reads I _ y u (h2.dp (SeqAt.canLay_of_shaped s2)) ry
  refine SeqAt.in_list_reads r2 r1 (SeqAt.canLay_of_shaped s2) (SeqAt.canLay_of_shaped s1) ?_ ⟨.bl _, H, I, rfl, by rw [any_row]; exact q⟩
  have d1 : (rowD r).depth = 1 := depth_encT (0, r)
  rw [d1]
  omega
section
variable {K : PySem.W.Frag} {H H' : Hp}
theorem Plt.ext {t : Addr} {xs : List V} (e : ExtN H H') (h : Plt H t xs) : Plt H' t xs := by
  obtain ⟨z, q, r⟩ := h
  exact ⟨z, e _ _ q (fun ps y => by cases y), r⟩
theorem TbA.ext {v : V} {tabs : List (Str × List (List Str))} (e : ExtN H H') (h : TbA K H v tabs) : TbA K H' v tabs := by
  obtain ⟨tb, vs, q, z, h⟩ := h
  exact ⟨tb, vs, q, z.ext e, DqA.ext e h⟩
theorem WAt.ext {p : Addr} {W : Wld} (e : ExtN H H') (h : WAt K H p W) : WAt K H' p W := by
  obtain ⟨v0, v1, v2, v3, v4, x⟩ := h
  exact ⟨v0, v1, v2, v3, v4, seqT_ext e x.sq, x.tiles.ext e, x.tabs.ext e, x.marks.ext e, x.ties.ext e, x.told.ext e⟩
theorem Tups.ext {ks : List (Addr × List Str)} (e : ExtN H H') (h : Tups K H ks) : Tups K H' ks := fun q m => seqT_ext e (h q m)
end
theorem GoodW.v {W : Wld} (g : GoodW W) : GoodV W :=
  ⟨g.tiles, g.kinds, fun t m => tabV_sub (g.cpl t m).1 (g.cpl t m).2 (List.Sublist.refl _), g.marks, g.ties, g.tieFew, g.told, Nat.le_trans g.toldFew (by decide)⟩
end Ly

namespace K01
open PySem PySem.Spec PyProof.Rows L2 Ly
def topS (i : Nat) : Stmt := PySem.Challenge.pw_laidanyhow_k01_names_lots_of_any_value.main.body.getD i (.Pass ⟨0, 0, 0, 0⟩)
abbrev FnP (K : PySem.W.Frag) (x : Str) (i : Nat) (f : Addr) (fd : FuncData) : Prop := FunD K x x (defArgs (topS i)) (defBody (topS i)) (defScope (topS i)) [] [] f fd
abbrev i_is_integer : Nat := 4
abbrev i_is_name : Nat := 5
abbrev i_is_lot : Nat := 6
abbrev i_is_told : Nat := 7
abbrev i_itself : Nat := 8
abbrev i_first_bad : Nat := 9
abbrev i_law_bag : Nat := 11
abbrev i_law_take : Nat := 12
abbrev i_law_some : Nat := 13
abbrev i_law_mixed : Nat := 14
abbrev i_law_alike : Nat := 15
abbrev i_law_is_int : Nat := 16
abbrev i_law_lots : Nat := 17
abbrev i_law_is_couple : Nat := 18
abbrev i_law_couples : Nat := 19
abbrev i_law_world_of : Nat := 20
abbrev i_law_world : Nat := 21
abbrev i_law_told : Nat := 22
abbrev i_law_odd : Nat := 23
abbrev i_law_bent : Nat := 24
abbrev i_law_is_name : Nat := 25
abbrev i_law_itself : Nat := 26
abbrev i_law_first_fault : Nat := 27
abbrev i_law_is_lot : Nat := 28
abbrev i_law_near_names : Nat := 29
abbrev i_law : Nat := 30
end K01

namespace Ly
open PySem PySem.Spec PyProof.Rows L2 LamX
/-- the code object of the def at f -/
def codeA (K : PySem.W.Frag) (f : Addr) : Addr := match K.lookup f with
  | some ⟨_, _, .func fd, _⟩ => (match fd.code with
    | .ref c => c
    | _ => 0)
  | _ => 0
theorem codeA_eq (K : PySem.W.Frag) (p : He.Defn) : He.codeOf K p = codeA K (He.fAd K p) := rfl
/-- as FunD.ok, the code object being known -/
theorem FunD.okT {P : Program} {w : World} {K : PySem.W.Frag} {mg : Str → Option Value} {base : Heap} {x qual : Str} {params : Arguments} {body : List Stmt} {scope : Scope} {dvs : List V} {kws : List (Str × V)} {f : Addr} {fd : FuncData}
    {CX : CXT} {N ps : List Str} {k : Nat} {sp : Sp} (F : FunD K x qual params body scope dvs kws f fd) (S : FnScope N ps scope) (len : ∀ vs H Q E, sp vs H Q E → vs.length = ps.length)
    (hbody : ∀ (A : Around) (outer : List Env) (s : Shared) (H : Hp) (vs : List V) (Q : VK) (E : XK), Room k (A.deeper (envOfC qual scope s.heap.objs.size f (.ref (codeA K f)))) → sp vs H Q E →
      ∃ t, PSs (cxOf CX P w K mg base N qual scope f (.ref (codeA K f)) A outer s H E) body t ∧ t { nx := fun _ H' => Q .non H', rt := Q } (start N vs) H) : FnOk P w K mg base CX (k + 1) f fd ps sp := by
  obtain ⟨oc, od, dV, kV, doc, pm, an, cdv, ct, osl, rfl, lk, hcd, _, _⟩ := F.ex
  obtain ⟨c, rfl⟩ := He.codeIn_ref hcd
  have e : codeA K f = c := by
    unfold codeA
    rw [lk]
  rw [e] at hbody
  exact fn_of lk hcd S len fun A outer s H vs Q E hr hsp => hbody A outer s H vs Q E hr hsp
/-- the tables of defs that make lambdas: none of them is another's -/
structure TabOf (base : Heap) (mg : Str → Option Value) (c P : Addr) (T : List (Addr × Str)) (q : Str) : Prop where
  tb : TabB base mg c P
  mem : (P, q) ∈ T
  own : ∀ p ∈ T, p.1 = P → p.2 = q
end Ly

namespace K01
open PySem PySem.Spec PyProof.Rows L2 LamX Ly
def dG (x : Str) (i : Nat) : He.DefD := ⟨(x, none), x, x, defArgs (topS i), defBody (topS i), defScope (topS i), [], []⟩
def defsT : List (Str × Nat) := [("is_integer", 4), ("is_name", 5), ("is_lot", 6), ("is_told", 7), ("itself", 8), ("first_bad", 9), ("_law_bag", 11), ("_law_take", 12), ("_law_some", 13), ("_law_mixed", 14), ("_law_alike", 15), ("_law_is_int", 16), ("_law_lots", 17), ("_law_is_couple", 18), ("_law_couples", 19), ("_law_world_of", 20), ("_law_world", 21), ("_law_told", 22), ("_law_odd", 23), ("_law_bent", 24), ("_law_is_name", 25), ("_law_itself", 26), ("_law_first_fault", 27), ("_law_is_lot", 28), ("_law_near_names", 29), ("law", 30)]
def fn : List He.DefD := defsT.map fun p => dG p.1 p.2
def glos : List Str := ["is_integer", "is_name", "is_lot", "is_told", "itself", "first_bad", "_law_bag", "_law_take", "_law_some", "_law_mixed", "_law_alike", "_law_is_int", "_law_lots", "_law_is_couple", "_law_couples", "_law_world_of", "_law_world", "_law_told", "_law_odd", "_law_bent", "_law_is_name", "_law_itself", "_law_first_fault", "_law_is_lot", "_law_near_names", "law"]
def frees : List Str := ["abs", "all", "any", "bool", "dict", "enumerate", "int", "isinstance", "len", "list", "range", "repr", "set", "sorted", "str", "tuple"]
def consts : List He.Fa := [.str "LETTERS" "abcdefghijklmnopqrstuvwxyz", .str "NAME_SIGNS" "abcdefghijklmnopqrstuvwxyz0123456789", .int "LONGEST_NAME" 12]
def loose : List Str := glos ++ (["LETTERS", "NAME_SIGNS", "LONGEST_NAME"] : List Str)
def tf : List He.Defn := [("is_lot", none), ("_law_is_lot", none)]
def fa : List He.Fa := glos.map He.Fa.glo ++ (frees.map He.Fa.free ++ consts)
def ex (K : PySem.W.Frag) : Bool := decide ((tf.map fun p => (He.cT K p).2).Nodup)
abbrev R : PySem.W.OpenRow := PySem.W.OpenLaw.row PySem.Challenge.rw_laidanyhow_k01_names_lots_of_any_value
abbrev hk : PySem.W.Hook := hookTb 5 fa fn tf ex
def ob (s : PySem.W.SharedT) : AlS := seenT 5 fa fn tf ex (HandSHeadRun.getT s)
theorem ob_eq (s : PySem.W.SharedT) : ob s = hk.obs s.abs := seenT_eq (HandSHeadRun.getT_eq s)
theorem run (w : World) : HandSHeadRun.RunEq R (PySem.W.view R.prog [30]) hk ob 5000 loose w := by
  intro os
  kernel_rfl
structure Txt (K : PySem.W.Frag) (mg : Str → Option Value) : Prop where
  glo : ∀ x ∈ glos, mg x = some (.ref (He.ga K x))
  free : ∀ x ∈ frees, mg x = none
  fun_ : ∀ x i, (x, i) ∈ defsT → ∃ fd, FnP K x i (He.ga K x) fd
  sys : SysD K
  str_ : ∀ x z, He.Fa.str x z ∈ consts → ∃ t, mg x = some (.str z t)
  int_ : ∀ x i, He.Fa.int x i ∈ consts → ∃ t, mg x = some (.int i t)
  two : (tf.map fun p => (He.cT K p).2).Nodup
theorem txt_of {h : Heap} {K : PySem.W.Frag} {mg : Str → Option Value} (X : K.In h) (G : h.Ns mainGlobals mg) (c : SaysTb fa fn tf ex h K) : Txt K mg := by
  refine ⟨fun x hx => ?_, fun x hx => ?_, fun x i hx => ?_, c.sys, fun x z hx => ?_, fun x z hx => ?_, of_decide_eq_true c.more⟩
  · exact He.glo_ok X G (c.d.facts (List.mem_append_left _ (List.mem_map_of_mem hx)))
  · exact He.free_ok X G (c.d.facts (List.mem_append_right _ (List.mem_append_left _ (List.mem_map_of_mem hx))))
  · exact c.d.defs (d := dG x i) (List.mem_map_of_mem (f := fun p : Str × Nat => dG p.1 p.2) hx)
  · exact He.str_ok X G (c.d.facts (List.mem_append_right _ (List.mem_append_right _ hx)))
  · exact He.int_ok X G (c.d.facts (List.mem_append_right _ (List.mem_append_right _ hx)))
/-- the defs with tables, and these -/
def tabs (K : PySem.W.Frag) : List (Addr × Addr) := tf.map (He.cT K)
theorem tabs_of {h : Heap} {K : PySem.W.Frag} (X : K.In h) (c : SaysTb fa fn tf ex h K) : ∀ a t, (a, t) ∈ tabs K → h.get? t = some EmptyT ∧ K.lookup t = none ∧ PySem.W.CodeHd h a t := fun a t m => by
  obtain ⟨p, hp, e⟩ := List.mem_map.mp m
  obtain ⟨h1, h2, h3⟩ := c.tab p hp
  rw [e] at h1 h2 h3
  exact ⟨h3, h2, PySem.W.codeHd_of_K X h1⟩
end K01

namespace K01
open PySem PySem.Spec PyProof.Rows L2 Ly
section
variable {P : Program} {w : World} {K : PySem.W.Frag} {mg : Str → Option Value} {base : Heap} {f : Addr} {fd : FuncData}
theorem scBag : FnScope ["script", "cell"] ["script"] (defScope (topS i_law_bag)) := ⟨rfl, rfl, rfl, by decide +kernel, rfl, by decide +kernel, by decide +kernel⟩
theorem scTake : FnScope ["bag", "many", "cell", "stirred", "value", "begin", "second"] ["bag", "many"] (defScope (topS i_law_take)) := ⟨rfl, rfl, rfl, by decide +kernel, rfl, by decide +kernel, by decide +kernel⟩
theorem scSome : FnScope ["bag", "things"] ["bag", "things"] (defScope (topS i_law_some)) := ⟨rfl, rfl, rfl, by decide +kernel, rfl, by decide +kernel, by decide +kernel⟩
/-- a draw: below many -/
def spTake : Sp := fun vs H Q _ => ∃ (b : Addr) (n : Int), vs = [.ref b, .int n] ∧ IsBag H b ∧ 0 < n ∧ n ≤ 1000000 ∧ ∀ v H', 0 ≤ v → v < n → Kp b H H' → Bg b H H' → Q (.int v) H'
theorem ok_take (F : FnP K "_law_take" i_law_take f fd) (mi : mg "int" = none) : FnOk P w K mg base CX0 1 f fd ["bag", "many"] spTake := by
  refine F.ok scTake (fun vs H Q E h => ?_) (fun cd A outer s H vs Q E hr h => ?_)
  · obtain ⟨b, n, rfl, _⟩ := h
    rfl
  · obtain ⟨b, n, rfl, ⟨q, x0, x1, x2, ms, hB⟩, hn, hn2, hQ⟩ := h
    -- behind the first if
    obtain ⟨tR, hR, qR⟩ : ∃ t, PSs (cxOf CX0 P w K mg base ["bag", "many", "cell", "stirred", "value", "begin", "second"] "_law_take" (defScope (topS i_law_take)) f cd A outer s H E).nox ((defBody (topS i_law_take)).drop 1) t ∧
        ∀ (c d : Option V) (H1 : Hp) (y0 y1 y2 : Int), BagAt H1 b q y0 y1 y2 ms → Kp b H H1 →
          t { nx := fun _ H' => Q .non H', rt := Q } [some (.ref b), some (.int n), c, d, none, none, none] H1 := by
      refine ⟨_, (pss_cons (ps_if (pt_cmpR op_gt (pe_ix ix_list (pv 0) pe_int (fun _ _ => rfl)) pe_int (nomark _))
        (pss_cons (ps_set (i := 4) scTake.nd rfl (.inl rfl) (pe_op op_mod (pe_callTy call_int1 (by rfl) mi (by decide +kernel) (pa_cons (pe_ix ix_list (pv 0) pe_int (fun _ _ => rfl)) pa_nil)) (pv 1)))
        (pss_cons (ps_asg (pe_op op_fdiv (pe_callTy call_int1 (by rfl) mi (by decide +kernel) (pa_cons (pe_ix ix_list (pv 0) pe_int (fun _ _ => rfl)) pa_nil)) (pv 1)) (pg_sub (pv 0) pe_int set_list))
        (pss_one (ps_ret (pv 4))))) pss_nil)
      (pss_cons (ps_set (i := 5) scTake.nd rfl (.inl rfl) (pe_op op_mod (pe_callTy call_int1 (by rfl) mi (by decide +kernel) (pa_cons (pe_op op_mul (pe_op op_add (pe_ix ix_list (pv 0) pe_int (fun _ _ => rfl)) pe_int) pe_int) pa_nil)) pe_int))
      (pss_cons (ps_set (i := 6) scTake.nd rfl (.inl rfl) (pe_op op_mod (pe_callTy call_int1 (by rfl) mi (by decide +kernel) (pa_cons (pe_op op_mul (pe_op op_mod (pe_callTy call_int1 (by rfl) mi (by decide +kernel) (pa_cons (pe_op op_mul (pv 5) (pv 5)) pa_nil)) pe_int) pe_int) pa_nil)) pe_int))
      (pss_one (ps_ret (pe_op op_mod (pe_callTy call_int1 (by rfl) mi (by decide +kernel) (pa_cons (pe_op op_fdiv (pv 6) pe_int) pa_nil)) (pv 1))))))), ?_⟩
      intro c d H1 y0 y1 y2 hB1 k1
      have hS : SqL K H1 b [.int y0, .int y1, .int y2, .ref q] := .inl (.inl hB1.top)
      refine ⟨.ref b, rfl, b, _, 0, .int y0, rfl, rfl, hS, rfl, _, _, rfl, rfl, _, rfl, ite2 (fun _ => ?_) (fun _ => ?_)⟩
      · refine ⟨.ref b, rfl, b, _, 0, .int y0, rfl, rfl, hS, rfl, .inl ⟨_, rfl, _, rfl, _, _, rfl, rfl, hn, ?_⟩⟩
        refine ⟨.ref b, rfl, b, _, 0, .int y0, rfl, rfl, hS, rfl, .inl ⟨_, rfl, _, rfl, _, _, rfl, rfl, ⟨hn, by omega⟩, ?_⟩⟩
        refine ⟨.ref b, rfl, b, _, 0, 0, rfl, rfl, hB1.top, rfl, ?_⟩
        refine ⟨_, rfl, ?_⟩
        exact hQ _ _ (Int.emod_nonneg _ (by omega)) (Int.emod_lt_of_pos _ hn) (k1.trans Kp.set) ⟨q, _, _, _, ms, _, _, _, ms, hB, hB1.set (Int.ediv_nonneg hB1.n0 (by omega)) hB1.n1 hB1.n2⟩
      · refine ⟨.ref b, rfl, b, _, 1, .int y1, rfl, rfl, hS, rfl, _, _, rfl, rfl, _, _, rfl, rfl, .inr ⟨by decide, by decide⟩, .inl ⟨_, rfl, _, _, rfl, rfl, (show (0 : Int) < 1000000007 by decide), ?_⟩⟩
        have m0 : ∀ z : Int, 0 ≤ z % 1000000007 ∧ z % 1000000007 < 1000000007 := fun z => ⟨Int.emod_nonneg _ (by decide), Int.emod_lt_of_pos _ (by decide)⟩
        have m1 : ∀ z : Int, 0 ≤ z % 998244353 ∧ z % 998244353 < 998244353 := fun z => ⟨Int.emod_nonneg _ (by decide), Int.emod_lt_of_pos _ (by decide)⟩
        have a0 := m0 ((y1 + 1) * 39373)
        refine ⟨_, rfl, _, rfl, _, _, rfl, rfl, .inl ⟨by omega, by omega⟩, .inl ⟨_, rfl, _, _, rfl, rfl, (show (0 : Int) < 998244353 by decide), _, _, rfl, rfl, .inr ⟨by decide, by decide⟩, .inl ⟨_, rfl, _, _, rfl, rfl, (show (0 : Int) < 998244353 by decide), ?_⟩⟩⟩
        refine ⟨_, rfl, _, _, rfl, rfl, ⟨by decide, by decide⟩, .inl ⟨_, rfl, _, rfl, _, _, rfl, rfl, hn, ?_⟩⟩
        exact hQ _ _ (Int.emod_nonneg _ (by omega)) (Int.emod_lt_of_pos _ hn) k1 ⟨q, _, _, _, ms, _, _, _, ms, hB, hB1⟩
    -- in the first if, behind the if within
    obtain ⟨tM, hM, qM⟩ : ∃ t, PSs (cxOf CX0 P w K mg base ["bag", "many", "cell", "stirred", "value", "begin", "second"] "_law_take" (defScope (topS i_law_take)) f cd A outer s H E).nox ((suiteOf (nthS (defBody (topS i_law_take)) 0)).drop 3) t ∧
        ∀ (c : Int) (d : Option V) (H1 : Hp) (y0 y1 y2 : Int), BagAt H1 b q y0 y1 y2 ms → Kp b H H1 →
          t { nx := tR { nx := fun _ H' => Q .non H', rt := Q }, rt := Q } [some (.ref b), some (.int n), some (.int c), d, none, none, none] H1 := by
      refine ⟨_, (pss_cons (ps_set (i := 3) scTake.nd rfl (.inl rfl) (pe_op op_add (pe_op op_add (pe_op op_mul (pe_ix ix_list (pv 0) pe_int (fun _ _ => rfl)) pe_int) (pe_op op_mod (pe_callTy call_int1 (by rfl) mi (by decide +kernel) (pa_cons (pv 2) pa_nil)) pe_int)) (pe_op op_mul pe_int (pe_ix ix_list (pv 0) pe_int (fun _ _ => rfl)))))
      (pss_one (ps_asg (pe_op op_mod (pe_callTy call_int1 (by rfl) mi (by decide +kernel) (pa_cons (pv 3) pa_nil)) pe_int) (pg_sub (pv 0) pe_int set_list)))), ?_⟩
      intro c d H1 y0 y1 y2 hB1 k1
      have hS : SqL K H1 b [.int y0, .int y1, .int y2, .ref q] := .inl (.inl hB1.top)
      refine ⟨.ref b, rfl, b, _, 1, .int y1, rfl, rfl, hS, rfl, _, _, rfl, rfl, .inr ⟨by decide, by decide⟩, _, rfl, .inl ⟨_, rfl, _, _, rfl, rfl, (show (0 : Int) < 2147483647 by decide), _, _, rfl, rfl, ?_⟩⟩
      refine ⟨.ref b, rfl, b, _, 2, .int y2, rfl, rfl, hS, rfl, _, _, rfl, rfl, .inl ⟨by decide, by decide⟩, _, _, rfl, rfl, ?_⟩
      refine ⟨_, rfl, .inl ⟨_, rfl, _, _, rfl, rfl, (show (0 : Int) < 2147483647 by decide), ?_⟩⟩
      refine ⟨.ref b, rfl, b, _, 1, 1, rfl, rfl, hB1.top, rfl, ?_⟩
      exact qR _ _ _ _ _ _ (hB1.set hB1.n0 (Int.emod_nonneg _ (by decide)) hB1.n2) (k1.trans Kp.set)
    refine ⟨_, PSs.nox (pss_cons (ps_if (pt_cmpR op_eq (pe_ix ix_list (pv 0) pe_int (fun _ _ => rfl)) pe_int (nomark _))
      (pss_cons (ps_set (i := 2) scTake.nd rfl (.inl rfl) (pe_ix ix_list (pe_op op_cat (pe_slice sl_list (pe_ix ix_list (pv 0) pe_int (fun _ _ => rfl)) (po_some (pe_ix ix_list (pv 0) pe_int (fun _ _ => rfl))) po_none) (pe_lst (pa_cons pe_int pa_nil))) pe_int (fun _ _ => rfl)))
      (pss_cons (ps_augS (pv 0) pe_int get_list pe_int ip_add set_list)
      (pss_cons (ps_if (pt_cmpR op_ge (pv 2) (pe_op op_pow pe_int pe_int) (nomark _)) (pss_one (ps_asg (pv 2) (pg_sub (pv 0) pe_int set_list))) pss_nil) hM))) pss_nil) hR), ?_⟩
    have hS : SqL K H b [.int x0, .int x1, .int x2, .ref q] := .inl (.inl hB.top)
    refine ⟨.ref b, rfl, b, _, 0, .int x0, rfl, rfl, hS, rfl, rfl, _, rfl, ite2 (fun _ => ?_) (fun _ => ?_)⟩
    · refine ⟨.ref b, rfl, b, _, 3, .ref q, rfl, rfl, hS, rfl, _, rfl, b, _, 2, .int x2, rfl, rfl, hS, rfl, _, rfl, q, _, rfl, .inl (.inl hB.cells), fun p hp => ?_⟩
      obtain ⟨zs, ez, lz⟩ := cut_ints ms (some x2) none
      rw [ez]
      have hB1 := hB.new (o := .lst (zs.map V.int)) hp
      have k1 : Kp b H (upd H p (.lst (zs.map V.int))) := Kp.new hp
      refine ⟨few_line (by decide), fun p2 hp2 => ?_⟩
      have n2 : p ≠ p2 := ne_of_none upd_same hp2
      refine ⟨p, p2, zs.map V.int, [.int 0], rfl, rfl, by rw [upd_ne n2, upd_same], upd_same, ?_, fun p3 hp3 => ?_⟩
      · rw [List.length_map]
        have := hB.few
        exact few_line (by simp only [List.length_cons, List.length_nil]; omega)
      obtain ⟨c, r, ec⟩ : ∃ (c : Int) (r : List V), zs.map V.int ++ [V.int 0] = V.int c :: r := by
        cases zs with
        | nil => exact ⟨0, [], rfl⟩
        | cons z r => exact ⟨z, _, rfl⟩
      rw [ec]
      have hB3 := (hB1.new (o := .lst [.int 0]) hp2).new (o := .lst (.int c :: r)) hp3
      have k3 := (k1.trans (Kp.new (o := .lst [.int 0]) hp2)).trans (Kp.new (b := b) (o := .lst (.int c :: r)) hp3)
      refine ⟨p3, _, 0, .int c, rfl, rfl, .inl (.inl upd_same), atI_nat (j := 0) rfl, ?_⟩
      refine ⟨.ref b, rfl, b, _, 2, .int x2, rfl, rfl, .inl (.inl hB3.top), rfl, _, _, rfl, rfl, b, _, 2, 2, rfl, rfl, hB3.top, rfl, ?_⟩
      have hB4 := hB3.set (y0 := x0) (y1 := x1) (y2 := x2 + 1) hB3.n0 hB3.n1 (by have := hB3.n2; omega)
      have k4 := k3.trans (Kp.set (b := b) (o := .lst [.int x0, .int x1, .int (x2 + 1), .ref q]))
      refine ⟨.int c, rfl, 10, 18, rfl, rfl, ⟨by decide, by decide, by decide⟩, _, _, rfl, rfl, _, rfl, ite2 (fun hc => ?_) (fun _ => ?_)⟩
      · refine ⟨_, rfl, .ref b, rfl, b, _, 0, 0, rfl, rfl, hB4.top, rfl, ?_⟩
        have hc' : (10 : Int) ^ (18 : Int).toNat ≤ c := of_decide_eq_true hc
        have h0 : (0 : Int) ≤ (10 : Int) ^ (18 : Int).toNat := by decide
        exact qM c none _ _ _ _ (hB4.set (by omega) hB4.n1 hB4.n2) (k4.trans Kp.set)
      · exact qM c none _ _ _ _ hB4 k4
    · exact qR none none H x0 x1 x2 hB (Kp.refl b H)
end
end K01

namespace K01
open PySem PySem.Spec PyProof.Rows L2 Ly
section
variable {P : Program} {w : World} {K : PySem.W.Frag} {mg : Str → Option Value} {base : Heap} {f : Addr} {fd : FuncData}
theorem scAlk : FnScope ["found", "due"] ["found", "due"] (defScope (topS i_law_alike)) := ⟨rfl, rfl, rfl, by decide +kernel, rfl, by decide +kernel, by decide +kernel⟩
/-- two of the same data -/
def spAlk (K : PySem.W.Frag) : Sp := fun vs H Q _ => ∃ (a b : Addr) (d : PyData), vs = [.ref a, .ref b] ∧ Dq K H (.ref a) d ∧ Dq K H (.ref b) d ∧ OkD 100000 6 d ∧ Q (.bl true) H
theorem ok_alk (F : FnP K "_law_alike" i_law_alike f fd) (mr : mg "repr" = none) (hS : SysD K) : FnG P w K mg base CX0 1 f fd ["found", "due"] (spAlk K) := by
  refine Ly.FunD.okG F scAlk (fun vs H Q E h => ?_) (fun cd A outer s H vs Q E hG hr h => ?_)
  · obtain ⟨a, b, d, rfl, _⟩ := h
    rfl
  · obtain ⟨a, b, d, rfl, da, db, ok, hQ⟩ := h
    refine ⟨_, PSs.nox (pss_one (ps_ret (pe_and (pe_cmpR (op_eqQ (hu64 hr)) (pv 0) (pv 1) (nomark _)) (pe_one (pe_cmpR op_eq (pe_callB (call_reprD hS hG hr) (by rfl) mr (by decide +kernel) (pa_cons (pv 0) pa_nil))
      (pe_callB (call_reprD hS hG hr) (by rfl) mr (by decide +kernel) (pa_cons (pv 1) pa_nil)) (nomark _)))))), ?_⟩
    have sh := ok.shaped (by decide)
    have ln := ok.line (by decide)
    have dp : d.depth ≤ 60 := Nat.le_trans ok.deep (by decide)
    refine ⟨.ref a, rfl, .ref b, rfl, d, d, da, db, sh, sh, _, rfl, ?_⟩
    rw [SeqAt.eqv_refl d ok.lay]
    refine iteT ?_
    refine ⟨_, rfl, a, d, rfl, da, ok.show_, ln, dp, _, rfl, b, d, rfl, db, ok.show_, ln, dp, rfl, ?_⟩
    rw [decide_eq_true rfl]
    exact hQ
end
end K01

namespace Ly
open PySem PySem.Spec PyProof.Rows L2
/-! [y for y in ts if ..] over a tuple of texts -/
theorem filt_step {ts : List Str} {q : Str → Bool} {j : Nat} {y : Str} (h : ts[j]? = some y) : (ts.take (j + 1)).filter q = (ts.take j).filter q ++ if q y = true then [y] else [] := by
  rw [take_step h, List.filter_append]
  by_cases c : q y = true
  · simp [c]
  · simp [c]
theorem lc_filt {K : PySem.W.Frag} {a : Addr} {ts : List Str} {q : Str → Bool} {tt : TT} {n : Nat} {σ : L2.St} {H1 : Hp} {D : Addr} {Qd : Hp → Prop} (hA : SqT K H1 a (ts.map V.str)) (l : ts.length ≤ 1000) (hD : H1 D = none) (hn : n < σ.length)
    (ht : ∀ y ∈ ts, ∀ H, Same H1 H → ∀ R : Bool → Hp → Prop, (∀ H', Same H H' → R (q y) H') → tt ((wipe σ [n]).set n (some (.str y))) H R)
    (hd : ∀ H, Same H1 H → H D = some (.lst ((ts.filter q).map V.str)) → Qd H) :
    ∃ W : Nat → Nat → Hp → Prop, (∃ m, W 0 m (upd H1 D (.lst []))) ∧ ∀ i m H, W i m H →
      ((Itt K a).stop i H ∧ Qd H) ∨ ((Itt K a).go i H ∧ ∃ Nx : Hp → Prop, (∀ H', Nx H' → ∃ m', m' < m ∧ W (i + 1) m' H') ∧ ∀ x H', (Itt K a).yld i H x H' → gName n x (wipe σ [n]) H' fun σ2 H2 => wipe σ2 [n] = wipe σ [n] ∧ tt σ2 H2 fun b H3 =>
        if b = true then tVar n σ2 H3 fun y H4 => ∃ acc, H4 D = some (.lst acc) ∧ acc.length < sizeLine ∧ Nx (upd H4 D (.lst (acc ++ [y]))) else Nx H3) := by
  refine lc_tup (K := K) (a := a) (xs := ts.map V.str) (g := gName n) (te := tVar n) (fun j H' => Same H1 H' ∧ H' D = some (.lst (((ts.take j).filter q).map V.str))) ⟨same_new hD, upd_same⟩ (fun j H' _ h' => Same.seqT h'.1 hA) ?_ ?_
  · rintro j v H2 hx ⟨s2, h2⟩
    obtain ⟨y, hy, rfl⟩ := str_at hx
    refine ⟨by simp [wipe, List.set_set], ht y (List.mem_of_getElem? hy) H2 s2 _ fun H3 s3 => ?_⟩
    have h3 := s3 _ _ h2
    refine ite2' (fun e => ?_) (fun e => ?_)
    · refine ⟨.str y, by simp [wipe, hn], _, h3, ?_, Same.wr (s2.trans s3) hD, ?_⟩
      · rw [List.length_map]
        have z := List.length_filter_le q (ts.take j)
        rw [List.length_take] at z
        exact fewer (by omega)
      · rw [upd_same, filt_step hy, if_pos e, List.map_append]
        rfl
    · refine ⟨s2.trans s3, ?_⟩
      rw [filt_step hy, if_neg (by simp [e]), List.append_nil]
      exact h3
  · rintro H2 ⟨s2, h2⟩
    rw [List.length_map, List.take_length] at h2
    exact hd H2 s2 h2
end Ly

namespace Ly
open PySem PySem.Spec PyProof.Rows L2
/-! [e for x in xs], e true or false -/
section
variable {K : PySem.W.Frag} {a : Addr} {β : Type} {ys : List β} {vf : β → V} {q : β → Bool} {te : TE} {n : Nat} {σ : L2.St} {H1 : Hp} {D : Addr} {Qd : Hp → Prop}
theorem lc_blT (hA : SqT K H1 a (ys.map vf)) (l : ys.length ≤ 1000) (hD : H1 D = none)
    (ht : ∀ v ∈ ys, ∀ H, Same H1 H → ∀ R : VK, (∀ H', Same H H' → R (.bl (q v)) H') → te ((wipe σ [n]).set n (some (vf v))) H R)
    (hd : ∀ H, Same H1 H → H D = some (.lst ((ys.map q).map V.bl)) → Qd H) :
    ∃ W : Nat → Nat → Hp → Prop, (∃ m, W 0 m (upd H1 D (.lst []))) ∧ ∀ i m H, W i m H →
      ((Itt K a).stop i H ∧ Qd H) ∨ ((Itt K a).go i H ∧ ∃ Nx : Hp → Prop, (∀ H', Nx H' → ∃ m', m' < m ∧ W (i + 1) m' H') ∧ ∀ x H', (Itt K a).yld i H x H' → gName n x (wipe σ [n]) H' fun σ2 H2 => wipe σ2 [n] = wipe σ [n] ∧ tYes σ2 H2 fun b H3 =>
        if b = true then te σ2 H3 fun y H4 => ∃ acc, H4 D = some (.lst acc) ∧ acc.length < sizeLine ∧ Nx (upd H4 D (.lst (acc ++ [y]))) else Nx H3) := by
  refine lc_tup (K := K) (a := a) (xs := ys.map vf) (g := gName n) (te := te) (fun j H' => Same H1 H' ∧ H' D = some (.lst (((ys.take j).map q).map V.bl))) ⟨same_new hD, upd_same⟩ (fun j H' _ h' => Same.seqT h'.1 hA) ?_ ?_
  · rintro j v H2 hx ⟨s2, h2⟩
    rw [List.getElem?_map] at hx
    obtain ⟨u, hu, rfl⟩ := Option.map_eq_some_iff.mp hx
    refine ⟨by simp [wipe, List.set_set], ht u (List.mem_of_getElem? hu) H2 s2 _ fun H3 s3 => ?_⟩
    have h3 := s3 _ _ h2
    refine ⟨_, h3, ?_, Same.wr (s2.trans s3) hD, ?_⟩
    · rw [List.length_map, List.length_map, List.length_take]
      exact fewer (by omega)
    · rw [upd_same, take_step hu, List.map_append, List.map_append]
      rfl
  · rintro H2 ⟨s2, h2⟩
    rw [List.length_map, List.take_length] at h2
    exact hd H2 s2 h2
theorem lc_blL (hA : SqL K H1 a (ys.map vf)) (l : ys.length ≤ 1000) (hD : H1 D = none)
    (ht : ∀ v ∈ ys, ∀ H, Same H1 H → ∀ R : VK, (∀ H', Same H H' → R (.bl (q v)) H') → te ((wipe σ [n]).set n (some (vf v))) H R)
    (hd : ∀ H, Same H1 H → H D = some (.lst ((ys.map q).map V.bl)) → Qd H) :
    ∃ W : Nat → Nat → Hp → Prop, (∃ m, W 0 m (upd H1 D (.lst []))) ∧ ∀ i m H, W i m H →
      ((Itl K a).stop i H ∧ Qd H) ∨ ((Itl K a).go i H ∧ ∃ Nx : Hp → Prop, (∀ H', Nx H' → ∃ m', m' < m ∧ W (i + 1) m' H') ∧ ∀ x H', (Itl K a).yld i H x H' → gName n x (wipe σ [n]) H' fun σ2 H2 => wipe σ2 [n] = wipe σ [n] ∧ tYes σ2 H2 fun b H3 =>
        if b = true then te σ2 H3 fun y H4 => ∃ acc, H4 D = some (.lst acc) ∧ acc.length < sizeLine ∧ Nx (upd H4 D (.lst (acc ++ [y]))) else Nx H3) := by
  refine lc_list (K := K) (a := a) (xs := ys.map vf) (g := gName n) (te := te) (fun j H' => Same H1 H' ∧ H' D = some (.lst (((ys.take j).map q).map V.bl))) ⟨same_new hD, upd_same⟩ (fun j H' _ h' => Same.seq h'.1 hA) ?_ ?_
  · rintro j v H2 hx ⟨s2, h2⟩
    rw [List.getElem?_map] at hx
    obtain ⟨u, hu, rfl⟩ := Option.map_eq_some_iff.mp hx
    refine ⟨by simp [wipe, List.set_set], ht u (List.mem_of_getElem? hu) H2 s2 _ fun H3 s3 => ?_⟩
    have h3 := s3 _ _ h2
    refine ⟨_, h3, ?_, Same.wr (s2.trans s3) hD, ?_⟩
    · rw [List.length_map, List.length_map, List.length_take]
      exact fewer (by omega)
    · rw [upd_same, take_step hu, List.map_append, List.map_append]
      rfl
  · rintro H2 ⟨s2, h2⟩
    rw [List.length_map, List.take_length] at h2
    exact hd H2 s2 h2
end
/-! told LOTS: one by one against the closure -/
def TldP (told : List (List Str)) (ts r : List Str) : Prop := r.length = 1 ∨ ∀ t ∈ ts, t ∉ r → ∃ l ∈ told, (∀ x ∈ r, x ∈ l) ∧ t ∉ l
theorem tld_meets {told : List (List Str)} {ts r : List Str} (nd : ts.Nodup) (hr : r.Sublist ts) (ne : r ≠ []) : TldP told ts r ↔ Meets (told ++ [ts] ++ ts.map fun t => [t]) r := by
  have ndr := nd.sublist hr
  constructor
  · rintro (h | h)
    · obtain ⟨t, rfl⟩ := List.length_eq_one_iff.mp h
      refine ⟨ne, [t], ?_, [], fun _ z => (by cases z), (mets_nil _).symm⟩
      exact List.mem_append_right _ (List.mem_map.mpr ⟨t, hr.subset (by simp), rfl⟩)
    · refine ⟨ne, ts, by simp, told.filter (fun l => r.all fun x => decide (x ∈ l)), fun a m => List.mem_append_left _ (List.mem_append_left _ (List.mem_filter.mp m).1), ?_⟩
      refine (sub_filter hr nd).symm.trans ?_
      unfold mets
      refine List.filter_congr fun t mt => ?_
      rw [Bool.eq_iff_iff]
      simp only [decide_eq_true_eq, List.all_eq_true, List.mem_filter]
      constructor
      · exact fun m a ⟨_, h2⟩ => h2 t m
      · intro z
        refine Classical.byContradiction fun n => ?_
        obtain ⟨l, ml, h1, h2⟩ := h t mt n
        exact h2 (z l ⟨ml, h1⟩)
  · rintro ⟨_, o, ho, A, hA, e⟩
    by_cases one : r.length = 1
    · exact .inl one
    · refine .inr fun t mt nt => ?_
      have ex : ∃ m ∈ (told ++ [ts] ++ ts.map fun t => [t]), (∀ x ∈ r, x ∈ m) ∧ t ∉ m := by
        by_cases c : t ∈ o
        · have : ∃ a ∈ A, t ∉ a := by
            refine Classical.byContradiction fun n => nt ?_
            rw [e]
            unfold mets
            rw [List.mem_filter]
            refine ⟨c, ?_⟩
            simp only [decide_eq_true_eq, List.all_eq_true]
            exact fun a m => Classical.byContradiction fun z => n ⟨a, m, z⟩
          obtain ⟨a, ma, na⟩ := this
          refine ⟨a, hA a ma, fun x mx => ?_, na⟩
          rw [e] at mx
          unfold mets at mx
          have z := (List.mem_filter.mp mx).2
          simp only [decide_eq_true_eq, List.all_eq_true] at z
          exact z a ma
        · refine ⟨o, ho, fun x mx => ?_, c⟩
          rw [e] at mx
          exact (List.mem_filter.mp mx).1
      obtain ⟨m, mm, h1, h2⟩ := ex
      rcases List.mem_append.mp mm with mm | mm
      · rcases List.mem_append.mp mm with mm | mm
        · exact ⟨m, mm, h1, h2⟩
        · rw [List.mem_singleton.mp mm] at h2
          exact absurd mt h2
      · obtain ⟨y, _, rfl⟩ := List.mem_map.mp mm
        have all : ∀ x ∈ r, x = y := fun x mx => List.mem_singleton.mp (h1 x mx)
        refine absurd ?_ one
        match r, ne, ndr, all with
        | [x], _, _, _ => rfl
        | x :: z :: r, _, nd, all => exact absurd ((all x (by simp)).trans (all z (by simp)).symm) (by
            have := List.nodup_cons.mp nd
            exact fun e => this.1 (by rw [e]; simp))
theorem row_inj {r r' : List Str} (h : rowD r = rowD r') : r = r' := by
  have z := PyData.tuple.inj h
  exact List.map_inj_right (fun _ _ e => PyData.str.inj e) |>.mp z
theorem fb_row {ts : List Str} : ∀ (ds : List PyData) (p : Option Str), fbB (oneOf ts) keyV (ds.map fun d => match d with | .str t => .str t | _ => .non) p = true →
    ∃ r : List Str, ds = r.map .str ∧ (∀ x ∈ r, x ∈ ts) ∧ (r.Pairwise fun a b => a.cps.toList < b.cps.toList) ∧ ∀ q, p = some q → ∀ x ∈ r, q.cps.toList < x.cps.toList
  | [], _, _ => ⟨[], rfl, fun _ z => (by cases z), .nil, fun _ _ _ z => (by cases z)⟩
  | d :: ds, p, h => by
    simp only [List.map_cons, fbB, Bool.and_eq_true] at h
    obtain ⟨h1, h2, h3⟩ := h
    cases d with
    | str t =>
      obtain ⟨r, rfl, i1, i2, i3⟩ := fb_row ds _ h3
      have i3 : ∀ x ∈ r, t.cps.toList < x.cps.toList := i3 t rfl
      have mt : t ∈ ts := of_decide_eq_true h1
      refine ⟨t :: r, rfl, fun x m => ?_, List.pairwise_cons.mpr ⟨i3, i2⟩, fun q e x m => ?_⟩
      · rcases List.mem_cons.mp m with rfl | m
        · exact mt
        · exact i1 x m
      · subst e
        have lt : q.cps.toList < t.cps.toList := of_decide_eq_true h2
        rcases List.mem_cons.mp m with rfl | m
        · exact lt
        · exact List.lt_trans lt (i3 x m)
    | _ => cases h1
/-- a LOT as data is a row of TILES in order -/
theorem lotB_row {ts : List Str} {d : PyData} (nd : ts.Nodup) (asc : ts.Pairwise fun a b => leS a b = true) (h : lotB ts d = true) : ∃ r : List Str, d = rowD r ∧ r ≠ [] ∧ r.Sublist ts := by
  cases d with
  | tuple ds =>
    simp only [lotB, Bool.and_eq_true, Bool.not_eq_true', decide_eq_false_iff_not] at h
    obtain ⟨r, rfl, h1, h2, _⟩ := fb_row ds none h.2
    refine ⟨r, rfl, fun e => h.1 (by rw [e]; rfl), ?_⟩
    have le : r.Pairwise fun a b => leS a b = true := h2.imp fun {a b} z => by
      rw [leS_eq, PyProof.Rows.ltCps_eq]
      have := List.lt_asymm z
      simp [this]
    have nr : r.Nodup := h2.imp fun {a b} z e => by
      subst e
      exact List.lt_irrefl _ z
    have e : r = ts.filter fun t => decide (t ∈ r) := ascS_mem le (asc.sublist List.filter_sublist) nr (nd.sublist List.filter_sublist) fun x => by
      rw [List.mem_filter, decide_eq_true_eq]
      exact ⟨fun m => ⟨h1 x m, m⟩, fun m => m.2⟩
    rw [e]
    exact List.filter_sublist
  | _ => cases h
end Ly

namespace Ly
open PySem PySem.Spec PyProof.Rows L2
/-! names; [] compared with any list -/
def aZ (c : Nat) : Bool := decide (97 ≤ c ∧ c ≤ 122)
def goodC (c : Nat) : Bool := aZ c || decide (48 ≤ c ∧ c ≤ 57)
def nameB (s : Str) : Bool := decide (1 ≤ s.cps.toList.length ∧ s.cps.toList.length ≤ 12) && (aZ (s.cps.toList.headD 0) && s.cps.toList.all goodC)
def isName : PyData → Bool
  | .str s => nameB s
  | _ => false
def letters : Str := "abcdefghijklmnopqrstuvwxyz"
def signs : Str := "abcdefghijklmnopqrstuvwxyz0123456789"
theorem mem_letters (c : Nat) : decide (c ∈ letters.cps.toList) = aZ c := by
  have e : letters.cps.toList = [97, 98, 99, 100, 101, 102, 103, 104, 105, 106, 107, 108, 109, 110, 111, 112, 113, 114, 115, 116, 117, 118, 119, 120, 121, 122] := by decide +kernel
  rw [e, aZ, decide_eq_decide]
  simp only [List.mem_cons, List.not_mem_nil, or_false]
  omega
theorem mem_signs (c : Nat) : decide (c ∈ signs.cps.toList) = goodC c := by
  have e : signs.cps.toList = [97, 98, 99, 100, 101, 102, 103, 104, 105, 106, 107, 108, 109, 110, 111, 112, 113, 114, 115, 116, 117, 118, 119, 120, 121, 122, 48, 49, 50, 51, 52, 53, 54, 55, 56, 57] := by decide +kernel
  rw [e, goodC, aZ, Bool.eq_iff_iff]
  simp only [List.mem_cons, List.not_mem_nil, or_false, decide_eq_true_eq, Bool.or_eq_true]
  omega
theorem one_le (c n : Nat) : (!decide ((⟨#[c]⟩ : Str).cps.toList < (⟨#[n]⟩ : Str).cps.toList)) = decide (n ≤ c) := by
  show (!decide ([c] < [n])) = _
  have e : ([c] < [n]) ↔ c < n := by rw [List.cons_lt_cons_iff]; simp
  rw [Bool.eq_iff_iff]
  simp only [Bool.not_eq_true', decide_eq_false_iff_not, decide_eq_true_eq, e]
  omega
def rEq0L (K : PySem.W.Frag) : R2 := fun x y H Q => ∃ (a b : Addr) (xs : List V), x = .ref a ∧ y = .ref b ∧ SqL K H a xs ∧ SqL K H b [] ∧ Q (.bl (decide (xs = []))) H
theorem op_eq0L {X : Cx} (hu : X.A.units + 64 < cLine) : OpR X (compareOp .Eq) (rEq0L X.K) := by
  intro pins s σ H x y v u Q I rx ry h
  obtain ⟨a, b, xs, rfl, rfl, hx, hy, q⟩ := h
  cases rx
  cases ry
  obtain ⟨its, rv, hl, _⟩ := I.list hx
  obtain ⟨its2, rv2, hl2, _⟩ := I.list hy
  cases rv2
  have l := rv.length
  by_cases e : xs = []
  · subst e
    cases rv
    refine SeqAt.eq_listAt (e := fun _ => true) hl.isList hl2.isList rfl (by omega) (fun j h1 h2 => absurd h2 (Nat.not_lt_zero _)) ⟨.bl true, H, I, rfl, ?_⟩
    rw [decide_eq_true rfl] at q
    exact q
  · refine SeqAt.eq_list_lengthsAt hl.isList hl2.isList ?_ (by omega) ⟨.bl false, H, I, rfl, ?_⟩
    · rw [List.size_toArray, ← l]
      cases xs with
      | nil => exact absurd rfl e
      | cons _ _ => rfl
    · rw [decide_eq_false e] at q
      exact q
section
variable {z : Str} {q : Nat → Bool} {te : TE} {tt : TT} {n : Nat} {σ : L2.St} {H1 : Hp} {D : Addr} {Qd : Hp → Prop}
theorem at_cps {i c : Nat} (h : z.cps[i]? = some c) : z.cps.toList[i]? = some c := by
  rw [Array.getElem?_toList]
  exact h
theorem lc_blS (l : z.cps.size ≤ 1000) (hD : H1 D = none)
    (ht : ∀ c ∈ z.cps.toList, ∀ H, Same H1 H → ∀ R : VK, (∀ H', Same H H' → R (.bl (q c)) H') → te ((wipe σ [n]).set n (some (.str ⟨#[c]⟩))) H R)
    (hd : ∀ H, Same H1 H → H D = some (.lst ((z.cps.toList.map q).map V.bl)) → Qd H) :
    ∃ W : Nat → Nat → Hp → Prop, (∃ m, W 0 m (upd H1 D (.lst []))) ∧ ∀ i m H, W i m H →
      ((Its z).stop i H ∧ Qd H) ∨ ((Its z).go i H ∧ ∃ Nx : Hp → Prop, (∀ H', Nx H' → ∃ m', m' < m ∧ W (i + 1) m' H') ∧ ∀ x H', (Its z).yld i H x H' → gName n x (wipe σ [n]) H' fun σ2 H2 => wipe σ2 [n] = wipe σ [n] ∧ tYes σ2 H2 fun b H3 =>
        if b = true then te σ2 H3 fun y H4 => ∃ acc, H4 D = some (.lst acc) ∧ acc.length < sizeLine ∧ Nx (upd H4 D (.lst (acc ++ [y]))) else Nx H3) := by
  refine lc_it (walk_str (z := z)) (g := gName n) (te := te) (fun j H' => Same H1 H' ∧ H' D = some (.lst (((z.cps.toList.take j).map q).map V.bl))) ⟨same_new hD, upd_same⟩ (fun _ _ _ _ => trivial) ?_ ?_
  · rintro j v H2 H2' hj ⟨s2, h2⟩ ⟨rfl, c, hc, rfl⟩
    have hc := at_cps hc
    refine ⟨by simp [wipe, List.set_set], ht c (List.mem_of_getElem? hc) _ s2 _ fun H3 s3 => ?_⟩
    have h3 := s3 _ _ h2
    refine ⟨_, h3, ?_, Same.wr (s2.trans s3) hD, ?_⟩
    · rw [List.length_map, List.length_map, List.length_take]
      exact fewer (by omega)
    · rw [upd_same, take_step hc, List.map_append, List.map_append]
      rfl
  · rintro H2 ⟨s2, h2⟩
    rw [List.take_of_length_le (by rw [Array.length_toList]; exact Nat.le_refl _)] at h2
    exact hd H2 s2 h2
theorem lc_ftS (l : z.cps.size ≤ 1000) (hD : H1 D = none) (hn : n < σ.length)
    (ht : ∀ c ∈ z.cps.toList, ∀ H, Same H1 H → ∀ R : Bool → Hp → Prop, (∀ H', Same H H' → R (q c) H') → tt ((wipe σ [n]).set n (some (.str ⟨#[c]⟩))) H R)
    (hd : ∀ H, Same H1 H → H D = some (.lst ((z.cps.toList.filter q).map fun c => V.str ⟨#[c]⟩)) → Qd H) :
    ∃ W : Nat → Nat → Hp → Prop, (∃ m, W 0 m (upd H1 D (.lst []))) ∧ ∀ i m H, W i m H →
      ((Its z).stop i H ∧ Qd H) ∨ ((Its z).go i H ∧ ∃ Nx : Hp → Prop, (∀ H', Nx H' → ∃ m', m' < m ∧ W (i + 1) m' H') ∧ ∀ x H', (Its z).yld i H x H' → gName n x (wipe σ [n]) H' fun σ2 H2 => wipe σ2 [n] = wipe σ [n] ∧ tt σ2 H2 fun b H3 =>
        if b = true then tVar n σ2 H3 fun y H4 => ∃ acc, H4 D = some (.lst acc) ∧ acc.length < sizeLine ∧ Nx (upd H4 D (.lst (acc ++ [y]))) else Nx H3) := by
  refine lc_it (walk_str (z := z)) (g := gName n) (te := tVar n) (fun j H' => Same H1 H' ∧ H' D = some (.lst (((z.cps.toList.take j).filter q).map fun c => V.str ⟨#[c]⟩))) ⟨same_new hD, upd_same⟩ (fun _ _ _ _ => trivial) ?_ ?_
  · rintro j v H2 H2' hj ⟨s2, h2⟩ ⟨rfl, c, hc, rfl⟩
    have hc := at_cps hc
    refine ⟨by simp [wipe, List.set_set], ht c (List.mem_of_getElem? hc) _ s2 _ fun H3 s3 => ?_⟩
    have h3 := s3 _ _ h2
    refine ite2' (fun e => ?_) (fun e => ?_)
    · refine ⟨.str ⟨#[c]⟩, by simp [wipe, hn], _, h3, ?_, Same.wr (s2.trans s3) hD, ?_⟩
      · rw [List.length_map]
        have y := List.length_filter_le q (z.cps.toList.take j)
        rw [List.length_take] at y
        exact fewer (by omega)
      · rw [upd_same, take_step hc, List.filter_append, List.filter_cons_of_pos e, List.map_append]
        rfl
    · refine ⟨s2.trans s3, ?_⟩
      rw [take_step hc, List.filter_append, List.filter_cons_of_neg (by rw [e]; exact Bool.false_ne_true), List.filter_nil, List.append_nil]
      exact h3
  · rintro H2 ⟨s2, h2⟩
    rw [List.take_of_length_le (by rw [Array.length_toList]; exact Nat.le_refl _)] at h2
    exact hd H2 s2 h2
end
def intB (d : PyData) : Bool := (isI d || isBl d) && !isBl d
end Ly

namespace K01
open PySem PySem.Spec PyProof.Rows L2 Ly
section
variable {P : Program} {w : World} {K : PySem.W.Frag} {mg : Str → Option Value} {base : Heap} {f fT : Addr} {fd fdT : FuncData}
/-- the bag of a script -/
def spBag (K : PySem.W.Frag) : Sp := fun vs H Q _ => ∃ (a : Addr) (ns : List Int), vs = [.ref a] ∧ SqL K H a (ns.map V.int) ∧ ns.length ≤ 63 ∧ ∀ b H', Same H H' → H b = none → IsBag H' b → Q (.ref b) H'
theorem ok_bag (F : FnP K "_law_bag" i_law_bag f fd) (ma : mg "abs" = none) : FnOk P w K mg base CX0 1 f fd ["script"] (spBag K) := by
  refine F.ok scBag (fun vs H Q E h => ?_) (fun cd A outer s H vs Q E hr h => ?_)
  · obtain ⟨a, ns, rfl, _⟩ := h
    rfl
  · obtain ⟨a, ns, rfl, hS, hl, hQ⟩ := h
    refine ⟨_, PSs.nox (pss_one (ps_ret (pe_lst (pa_cons pe_int (pa_cons pe_int (pa_cons pe_int (pa_cons
      (pe_lc (own := [("cell", 1)]) (g := gName 1) (tt := tYes) rfl scBag.nd (pi_list (pe_slice sl_list (pv 0) po_none (po_some pe_int)))
        (blkOk_by (N := ["script", "cell"]) (sc := defScope (topS i_law_bag)) (by decide +kernel)) (fun _ _ _ _ _ => pg_name (i := 1) scBag.nd rfl (Or.inl rfl)) (fun _ _ _ _ _ => pts_nil)
        (fun _ _ _ _ _ => pe_callB call_abs (by rfl) ma (by decide +kernel) (pa_cons (pv 1) pa_nil))) pa_nil))))))), ?_⟩
    refine ⟨.ref a, rfl, 63, rfl, a, _, rfl, hS, fun p hp => ?_⟩
    obtain ⟨zs, ez, lz⟩ := cut_ints ns none (some 63)
    rw [ez]
    have sp : Same H (upd H p (.lst (zs.map V.int))) := same_new hp
    refine ⟨p, rfl, ⟨_, .inl (.inl upd_same)⟩, fun D hD => ?_⟩
    have nD : p ≠ D := ne_of_none upd_same hD
    refine lc_list (xs := zs.map V.int) (fun i H' => H' p = some (.lst (zs.map V.int)) ∧ Same (upd H p (.lst (zs.map V.int))) H' ∧ ∃ acc : List Int, acc.length = i ∧ H' D = some (.lst (acc.map V.int)))
      ⟨by rw [upd_ne nD, upd_same], same_new hD, [], rfl, upd_same⟩ (fun i H' _ h' => .inl (.inl h'.1)) ?_ ?_
    · rintro i x H' hx ⟨h1, h2, acc, h3, h4⟩
      obtain ⟨z, hz, rfl⟩ : ∃ z : Int, zs[i]? = some z ∧ x = V.int z := by
        rw [List.getElem?_map] at hx
        match e : zs[i]?, hx with
        | some z, hx => exact ⟨z, rfl, (Option.some.inj hx).symm⟩
        | none, hx => cases hx
      have hi : i < zs.length := (List.getElem?_eq_some_iff.mp hz).1
      refine ⟨rfl, .int z, rfl, z, rfl, acc.map V.int, h4, ?_, ?_, ?_, ?_⟩
      · rw [List.length_map, sizeLine_eq]
        omega
      · rw [upd_ne nD]
        exact h1
      · intro c o e
        have nc : c ≠ D := ne_of_none e hD
        rw [upd_ne nc]
        exact h2 c o e
      · refine ⟨acc ++ [if z < 0 then -z else z], by simp [h3], ?_⟩
        rw [upd_same]
        simp
    · rintro H' ⟨h1, h2, acc, h3, h4⟩
      refine ⟨few_line (by simp), fun b hb => ?_⟩
      have nb : b ≠ D := fun e => by
        rw [e, h4] at hb
        cases hb
      refine hQ b _ ((sp.trans h2).trans (same_new hb)) ((sp.trans h2).free hb) ⟨D, 0, 1234567891, 0, acc, upd_same, ?_, by decide, by decide, by decide, ?_⟩
      · rw [upd_ne (Ne.symm nb)]
        exact h4
      · rw [List.length_map] at h3
        omega
/-- one of the things -/
def spSome (K : PySem.W.Frag) : Sp := fun vs H Q _ => ∃ (b t : Addr) (xs : List V), vs = [.ref b, .ref t] ∧ IsBag H b ∧ ((SqL K H t xs ∧ t ≠ b) ∨ SqT K H t xs) ∧ 0 < xs.length ∧ xs.length ≤ 100000 ∧
  ∀ v H', v ∈ xs → Kp b H H' → Bg b H H' → Q v H'
theorem Kp.seqs {b t : Addr} {H H' : Hp} {xs : List V} (h : Kp b H H') (n : t ≠ b) (hs : SqL K H t xs ∨ SqT K H t xs) : SqL K H' t xs ∨ SqT K H' t xs := by
  rcases hs with ((e | ⟨o, e⟩) | e) | ((e | ⟨o, e⟩) | e)
  · exact .inl (.inl (.inl (h t _ n e)))
  · exact .inl (.inl (.inr ⟨o, h t _ n e⟩))
  · exact .inl (.inr e)
  · exact .inr (.inl (.inl (h t _ n e)))
  · exact .inr (.inl (.inr ⟨o, h t _ n e⟩))
  · exact .inr (.inr e)
theorem ok_some (F : FnP K "_law_some" i_law_some f fd) (FT : FnP K "_law_take" i_law_take fT fdT) (gT : mg "_law_take" = some (.ref fT)) (mi : mg "int" = none) (ml : mg "len" = none) : FnOk P w K mg base CX0 2 f fd ["bag", "things"] (spSome K) := by
  have GT : FnOk P w K mg base CX0 1 fT fdT ["bag", "many"] spTake := ok_take FT mi
  have bT : Binds K fdT ["bag", "many"] [] := FT.bindsN fun _ _ _ _ _ _ us hl => match us, hl with | [_, _], _ => rfl
  refine F.ok scSome (fun vs H Q E h => ?_) (fun cd A outer s H vs Q E hr h => ?_)
  · obtain ⟨b, t, xs, rfl, _⟩ := h
    rfl
  · obtain ⟨b, t, xs, rfl, hB, hs, h0, h1, hQ⟩ := h
    refine ⟨_, PSs.nox (pss_one (ps_ret (pe_ix ix_seq (pv 1) (pe_call GT hr (by rfl) gT FT.kp bT .nil pass0 (pa_cons (pv 0) (pa_cons (pe_callB call_len_seq (by rfl) ml PySem.boot_len (pa_cons (pv 1) pa_nil)) pa_nil))) (fun _ _ => rfl)))), ?_⟩
    refine ⟨.ref t, rfl, .ref b, rfl, .ref t, rfl, t, xs, rfl, hs.imp And.left id, b, (xs.length : Int), rfl, hB, by omega, by omega, fun v H1 v0 v1 k1 b1 => ?_⟩
    obtain ⟨i, rfl⟩ : ∃ i : Nat, v = (i : Int) := ⟨v.toNat, by omega⟩
    have hi : i < xs.length := by omega
    have e : atI xs (i : Int) = some xs[i] := atI_nat (List.getElem?_eq_getElem hi)
    have q := hQ xs[i] H1 (List.getElem_mem hi) k1 b1
    rcases hs with ⟨z, nt⟩ | z
    · exact .inl ⟨t, xs, _, _, rfl, rfl, (Dr.mk k1 b1).seqL nt z, e, q⟩
    · exact .inr (.inl ⟨t, xs, _, _, rfl, rfl, (Dr.mk k1 b1).seqT z, e, q⟩)
end
end K01

namespace K01
open PySem PySem.Spec PyProof.Rows L2 LamX Ly
section
variable {P : Program} {w : World} {K : PySem.W.Frag} {mg : Str → Option Value} {base : Heap} {f : Addr} {fd : FuncData}
theorem scIts : FnScope ["row"] ["row"] (defScope (topS i_itself)) := ⟨rfl, rfl, rfl, by decide +kernel, rfl, by decide +kernel, by decide +kernel⟩
def spIts : Sp := fun vs H Q _ => ∃ v, vs = [v] ∧ Q v H
theorem ok_Its (F : FnP K "itself" i_itself f fd) : FnOk P w K mg base CX0 1 f fd ["row"] spIts := by
  refine F.ok scIts (fun vs H Q E h => ?_) (fun cd A outer s H vs Q E hr h => ?_)
  · obtain ⟨v, rfl, _⟩ := h
    rfl
  · obtain ⟨v, rfl, hQ⟩ := h
    exact ⟨_, PSs.nox (pss_one (ps_ret (pv 0))), v, rfl, hQ⟩
abbrev nmFb : List Str := ["rows", "is_good", "key_of", "index", "row"]
theorem scFb : FnScope nmFb ["rows", "is_good", "key_of"] (defScope (topS i_first_bad)) := ⟨rfl, rfl, rfl, by decide +kernel, rfl, by decide +kernel, by decide +kernel⟩
/-- the first row that is not as it should be -/
def spFb (P : Program) (w : World) (K : PySem.W.Frag) (mg : Str → Option Value) (base : Heap) : Shared → List V → Hp → VK → Prop := fun s vs H Q => ∃ (a f1 f2 : Addr) (xs : List V) (good : V → Bool) (key : V → Str) (sp1 sp2 : Sp), vs = [.ref a, .ref f1, .ref f2] ∧
  Callee P w K mg base 2 f1 sp1 s H ∧ Callee P w K mg base 2 f2 sp2 s H ∧ SqT K H a xs ∧
  (∀ x ∈ xs, ∀ H1 Q, Same H H1 → (∀ H2, Same H1 H2 → Q (.bl (good x)) H2) → sp1 [x] H1 Q EN) ∧ (∀ x ∈ xs, good x = true → ∀ H1 Q, Same H H1 → (∀ H2, Same H1 H2 → Q (.str (key x)) H2) → sp2 [x] H1 Q EN) ∧
  ∀ r H', Same H H' → (fbB good key xs none = true → r = .non) → (fbB good key xs none = false → ∃ i, r = .int i) → Q r H'
theorem ok_Fb (F : FnP K "first_bad" i_first_bad f fd) (me : mg "enumerate" = none) : FnC P w K mg base 3 f fd ["rows", "is_good", "key_of"] (spFb P w K mg base) := by
  refine Ly.FunD.okC F scFb (fun s vs H Q h => ?_) (fun cd A outer s H vs Q hr h => ?_)
  · obtain ⟨a, f1, f2, xs, good, key, sp1, sp2, rfl, _⟩ := h
    rfl
  · obtain ⟨a, f1, f2, xs, good, key, sp1, sp2, rfl, C1, C2, hS, h1, h2, hQ⟩ := h
    refine ⟨_, PSs.nox (pss_cons (ps_for PassesOwn.never rfl (pi_enumT (by rfl) me (pa_cons (pv 0) pa_nil)) (pg_tup rfl (pgs_cons (pg_name (i := 3) scFb.nd rfl (.inl rfl)) (pgs_cons (pg_name (i := 4) scFb.nd rfl (.inl rfl)) pgs_nil)))
        (pss_cons (ps_if (pt_not (pt_val (pe_cle (i := 1) C1 rfl hr rfl (Or.inl rfl) (pa_cons (pv 4) pa_nil)))) (pss_one (ps_ret (pv 3))) pss_nil)
        (pss_one (ps_if (PW.pt (pw_and (pt_cmpR op_gt (pv 3) pe_int (nomark _)) (pw_and1 (pt_not (pt_cmpR op_lt_str (pe_cle (i := 2) C2 rfl hr rfl (Or.inl rfl) (pa_cons (pe_ix ix_tup (pv 0) (pe_op op_sub (pv 3) pe_int) (fun _ _ => rfl)) pa_nil))
          (pe_cle (i := 2) C2 rfl hr rfl (Or.inl rfl) (pa_cons (pv 4) pa_nil)) (nomark _)))))) (pss_one (ps_ret (pv 3))) pss_nil))))
      (pss_one (ps_ret pe_non))), ?_⟩
    refine ⟨.ref a, rfl, a, xs, rfl, hS, for_it (walk_enumT (xs := xs)) (fun i σ H' => (∃ y3 y4, σ = [some (.ref a), some (.ref f1), some (.ref f2), y3, y4]) ∧ Same H H' ∧ (∀ j x, j < i → xs[j]? = some x → good x = true) ∧ fbB good key xs none = fbB good key (xs.drop i) (prevOf key xs i))
      ⟨⟨_, _, rfl⟩, fun _ _ z => z, fun j x z => absurd z (Nat.not_lt_zero _), rfl⟩ (fun i σ H' _ h' => Same.seqT h'.2.1 hS) ?_ ?_⟩
    · rintro i v σ H3 H4 hi ⟨⟨y3, y4, rfl⟩, e3, gd, eq⟩ ⟨T, x', x, rfl, hT, rfl, e1, e2⟩
      cases e1
      have e2 : xs[i]? = some x := e2
      have mx := List.mem_of_getElem? e2
      rw [fbB_step e2] at eq
      have e4 : Same H (upd H3 T (.tup [.int (i : Nat), x])) := e3.trans (same_new hT)
      refine ⟨T, _, rfl, .inl (.inl upd_same), rfl, _, _, rfl, _, _, rfl, rfl, ?_⟩
      generalize upd H3 T (.tup [.int (i : Nat), x]) = H4 at e4 ⊢
      refine ⟨rfl, Same.ext e4, x, rfl, Same.ext e4, h1 x mx H4 _ e4 fun H5 e5 => ⟨good x, rfl, ?_⟩⟩
      have e05 := e4.trans e5
      cases hg : good x with
      | false =>
        refine iteT ⟨.int (i : Nat), rfl, hQ _ _ e05 (fun z => ?_) fun _ => ⟨_, rfl⟩⟩
        rw [eq, hg] at z
        cases z
      | true =>
        rw [hg, Bool.true_and] at eq
        refine iteF ?_
        refine ⟨_, rfl, _, _, rfl, rfl, ?_⟩
        cases i with
        | zero =>
          refine ⟨_, rfl, ?_⟩
          refine iteF ?_
          refine iteF ⟨⟨_, _, rfl⟩, e05, fun j z lt ez => ?_, ?_⟩
          · have : j = 0 := by omega
            subst this
            rw [e2] at ez
            cases ez
            exact hg
          · exact eq
        | succ i =>
          refine ⟨_, rfl, ite2 (fun _ => ?_) (fun z => absurd (decide_eq_true (show ((i + 1 : Nat) : Int) > 0 by omega)) z)⟩
          have lt : i < xs.length := by omega
          have eb : xs[i]? = some xs[i] := List.getElem?_eq_getElem lt
          have gb := gd i _ (Nat.lt_succ_self i) eb
          refine ⟨rfl, Same.ext e05, .ref a, rfl, _, rfl, _, _, rfl, rfl, a, _, ((i : Nat) : Int), xs[i], rfl, ?_, Same.seqT e05 hS, atI_nat eb, Same.ext e05, h2 _ (List.getElem_mem lt) gb _ _ e05 fun H6 e6 => ?_⟩
          · show V.int _ = V.int _
            congr 1
            omega
          have e06 := e05.trans e6
          refine ⟨rfl, Same.ext e06, x, rfl, Same.ext e06, h2 x mx hg _ _ e06 fun H7 e7 => ⟨key xs[i], key x, rfl, rfl, ?_⟩⟩
          have ep : prevOf key xs (i + 1) = some (key xs[i]) := by
            show (xs[i]?).map key = _
            rw [eb]
            rfl
          rw [ep] at eq
          have eq2 : fbB good key xs none = (decide ((key xs[i]).cps.toList < (key x).cps.toList) && fbB good key (xs.drop (i + 1 + 1)) (prevOf key xs (i + 1 + 1))) := eq
          refine ⟨_, rfl, ?_⟩
          cases hd : decide ((key xs[i]).cps.toList < (key x).cps.toList) with
          | false =>
            refine iteT ⟨.int ((i + 1 : Nat) : Int), rfl, hQ _ _ (e06.trans e7) (fun z => ?_) fun _ => ⟨_, rfl⟩⟩
            rw [eq2, hd] at z
            cases z
          | true =>
            refine iteF ⟨⟨_, _, rfl⟩, e06.trans e7, fun j z lt ez => ?_, ?_⟩
            · by_cases c : j = i + 1
              · subst c
                rw [e2] at ez
                cases ez
                exact hg
              · exact gd j z (by omega) ez
            · rw [eq2, hd, Bool.true_and]
    · rintro σ H3 ⟨⟨y3, y4, rfl⟩, e3, gd, eq⟩
      rw [List.drop_length] at eq
      exact hQ _ _ e3 (fun _ => rfl) fun z => by
        rw [eq] at z
        cases z
end
end K01

namespace K01
open PySem PySem.Spec PyProof.Rows L2 LamX Ly
section
variable {P : Program} {w : World} {K : PySem.W.Frag} {mg : Str → Option Value} {base : Heap} {f : Addr} {fd : FuncData}
theorem scLis : FnScope ["thing"] ["thing"] (defScope (topS i_law_itself)) := ⟨rfl, rfl, rfl, by decide +kernel, rfl, by decide +kernel, by decide +kernel⟩
def spLis : Sp := fun vs H Q _ => ∃ v, vs = [v] ∧ Q v H
theorem ok_Lis (F : FnP K "_law_itself" i_law_itself f fd) : FnOk P w K mg base CX0 1 f fd ["thing"] spLis := by
  refine F.ok scLis (fun vs H Q E h => ?_) (fun cd A outer s H vs Q E hr h => ?_)
  · obtain ⟨v, rfl, _⟩ := h
    rfl
  · obtain ⟨v, rfl, hQ⟩ := h
    exact ⟨_, PSs.nox (pss_one (ps_ret (pv 0))), v, rfl, hQ⟩
abbrev nmLf : List Str := ["things", "is_right", "key", "at", "thing"]
theorem scLf : FnScope nmLf ["things", "is_right", "key"] (defScope (topS i_law_first_fault)) := ⟨rfl, rfl, rfl, by decide +kernel, rfl, by decide +kernel, by decide +kernel⟩
/-- the first row that is not as it should be -/
def spLf (P : Program) (w : World) (K : PySem.W.Frag) (mg : Str → Option Value) (base : Heap) : Shared → List V → Hp → VK → Prop := fun s vs H Q => ∃ (a f1 f2 : Addr) (xs : List V) (good : V → Bool) (key : V → Str) (sp1 sp2 : Sp), vs = [.ref a, .ref f1, .ref f2] ∧
  Callee P w K mg base 2 f1 sp1 s H ∧ Callee P w K mg base 2 f2 sp2 s H ∧ SqT K H a xs ∧
  (∀ x ∈ xs, ∀ H1 Q, Same H H1 → (∀ H2, Same H1 H2 → Q (.bl (good x)) H2) → sp1 [x] H1 Q EN) ∧ (∀ x ∈ xs, good x = true → ∀ H1 Q, Same H H1 → (∀ H2, Same H1 H2 → Q (.str (key x)) H2) → sp2 [x] H1 Q EN) ∧
  ∀ r H', Same H H' → (fbB good key xs none = true → r = .non) → (fbB good key xs none = false → ∃ i, r = .int i) → Q r H'
theorem ok_Lf (F : FnP K "_law_first_fault" i_law_first_fault f fd) (me : mg "enumerate" = none) : FnC P w K mg base 3 f fd ["things", "is_right", "key"] (spLf P w K mg base) := by
  refine Ly.FunD.okC F scLf (fun s vs H Q h => ?_) (fun cd A outer s H vs Q hr h => ?_)
  · obtain ⟨a, f1, f2, xs, good, key, sp1, sp2, rfl, _⟩ := h
    rfl
  · obtain ⟨a, f1, f2, xs, good, key, sp1, sp2, rfl, C1, C2, hS, h1, h2, hQ⟩ := h
    refine ⟨_, PSs.nox (pss_cons (ps_for PassesOwn.never rfl (pi_enumT (by rfl) me (pa_cons (pv 0) pa_nil)) (pg_tup rfl (pgs_cons (pg_name (i := 3) scLf.nd rfl (.inl rfl)) (pgs_cons (pg_name (i := 4) scLf.nd rfl (.inl rfl)) pgs_nil)))
        (pss_cons (ps_if (pt_not (pt_val (pe_cle (i := 1) C1 rfl hr rfl (Or.inl rfl) (pa_cons (pv 4) pa_nil)))) (pss_one (ps_ret (pv 3))) pss_nil)
        (pss_one (ps_if (PW.pt (pw_and (pt_cmpR op_gt (pv 3) pe_int (nomark _)) (pw_and1 (pt_not (pt_cmpR op_lt_str (pe_cle (i := 2) C2 rfl hr rfl (Or.inl rfl) (pa_cons (pe_ix ix_tup (pv 0) (pe_op op_sub (pv 3) pe_int) (fun _ _ => rfl)) pa_nil))
          (pe_cle (i := 2) C2 rfl hr rfl (Or.inl rfl) (pa_cons (pv 4) pa_nil)) (nomark _)))))) (pss_one (ps_ret (pv 3))) pss_nil))))
      (pss_one (ps_ret pe_non))), ?_⟩
    refine ⟨.ref a, rfl, a, xs, rfl, hS, for_it (walk_enumT (xs := xs)) (fun i σ H' => (∃ y3 y4, σ = [some (.ref a), some (.ref f1), some (.ref f2), y3, y4]) ∧ Same H H' ∧ (∀ j x, j < i → xs[j]? = some x → good x = true) ∧ fbB good key xs none = fbB good key (xs.drop i) (prevOf key xs i))
      ⟨⟨_, _, rfl⟩, fun _ _ z => z, fun j x z => absurd z (Nat.not_lt_zero _), rfl⟩ (fun i σ H' _ h' => Same.seqT h'.2.1 hS) ?_ ?_⟩
    · rintro i v σ H3 H4 hi ⟨⟨y3, y4, rfl⟩, e3, gd, eq⟩ ⟨T, x', x, rfl, hT, rfl, e1, e2⟩
      cases e1
      have e2 : xs[i]? = some x := e2
      have mx := List.mem_of_getElem? e2
      rw [fbB_step e2] at eq
      have e4 : Same H (upd H3 T (.tup [.int (i : Nat), x])) := e3.trans (same_new hT)
      refine ⟨T, _, rfl, .inl (.inl upd_same), rfl, _, _, rfl, _, _, rfl, rfl, ?_⟩
      generalize upd H3 T (.tup [.int (i : Nat), x]) = H4 at e4 ⊢
      refine ⟨rfl, Same.ext e4, x, rfl, Same.ext e4, h1 x mx H4 _ e4 fun H5 e5 => ⟨good x, rfl, ?_⟩⟩
      have e05 := e4.trans e5
      cases hg : good x with
      | false =>
        refine iteT ⟨.int (i : Nat), rfl, hQ _ _ e05 (fun z => ?_) fun _ => ⟨_, rfl⟩⟩
        rw [eq, hg] at z
        cases z
      | true =>
        rw [hg, Bool.true_and] at eq
        refine iteF ?_
        refine ⟨_, rfl, _, _, rfl, rfl, ?_⟩
        cases i with
        | zero =>
          refine ⟨_, rfl, ?_⟩
          refine iteF ?_
          refine iteF ⟨⟨_, _, rfl⟩, e05, fun j z lt ez => ?_, ?_⟩
          · have : j = 0 := by omega
            subst this
            rw [e2] at ez
            cases ez
            exact hg
          · exact eq
        | succ i =>
          refine ⟨_, rfl, ite2 (fun _ => ?_) (fun z => absurd (decide_eq_true (show ((i + 1 : Nat) : Int) > 0 by omega)) z)⟩
          have lt : i < xs.length := by omega
          have eb : xs[i]? = some xs[i] := List.getElem?_eq_getElem lt
          have gb := gd i _ (Nat.lt_succ_self i) eb
          refine ⟨rfl, Same.ext e05, .ref a, rfl, _, rfl, _, _, rfl, rfl, a, _, ((i : Nat) : Int), xs[i], rfl, ?_, Same.seqT e05 hS, atI_nat eb, Same.ext e05, h2 _ (List.getElem_mem lt) gb _ _ e05 fun H6 e6 => ?_⟩
          · show V.int _ = V.int _
            congr 1
            omega
          have e06 := e05.trans e6
          refine ⟨rfl, Same.ext e06, x, rfl, Same.ext e06, h2 x mx hg _ _ e06 fun H7 e7 => ⟨key xs[i], key x, rfl, rfl, ?_⟩⟩
          have ep : prevOf key xs (i + 1) = some (key xs[i]) := by
            show (xs[i]?).map key = _
            rw [eb]
            rfl
          rw [ep] at eq
          have eq2 : fbB good key xs none = (decide ((key xs[i]).cps.toList < (key x).cps.toList) && fbB good key (xs.drop (i + 1 + 1)) (prevOf key xs (i + 1 + 1))) := eq
          refine ⟨_, rfl, ?_⟩
          cases hd : decide ((key xs[i]).cps.toList < (key x).cps.toList) with
          | false =>
            refine iteT ⟨.int ((i + 1 : Nat) : Int), rfl, hQ _ _ (e06.trans e7) (fun z => ?_) fun _ => ⟨_, rfl⟩⟩
            rw [eq2, hd] at z
            cases z
          | true =>
            refine iteF ⟨⟨_, _, rfl⟩, e06.trans e7, fun j z lt ez => ?_, ?_⟩
            · by_cases c : j = i + 1
              · subst c
                rw [e2] at ez
                cases ez
                exact hg
              · exact gd j z (by omega) ez
            · rw [eq2, hd, Bool.true_and]
    · rintro σ H3 ⟨⟨y3, y4, rfl⟩, e3, gd, eq⟩
      rw [List.drop_length] at eq
      exact hQ _ _ e3 (fun _ => rfl) fun z => by
        rw [eq] at z
        cases z
end
end K01

namespace K01
open PySem PySem.Spec PyProof.Rows L2 LamX NdefX Ly
section
variable {P : Program} {w : World} {K : PySem.W.Frag} {mg : Str → Option Value} {base : Heap} {f fB fI : Addr} {fd fdB fdI : FuncData} {T : List (Addr × Str)} {TP : Addr}
theorem scIl : FnScope ["world", "thing"] ["world", "thing"] (defScope (topS i_is_lot)) := ⟨rfl, rfl, rfl, by decide +kernel, rfl, by decide +kernel, by decide +kernel⟩
abbrev lsIl : Scope := { kind := .function, names := [("tile", .local), ("world", .free)], isGenerator := false, isCoroutine := false }
/-- is it a LOT: v0 the TILES, in a tuple -/
def spIl (K : PySem.W.Frag) (T : List (Addr × Str)) : Sp := fun vs H Q _ => ∃ (p a : Addr) (rest : List V) (ts : List Str) (v : V) (d : PyData), vs = [.ref p, v] ∧ SqT K H p (.ref a :: rest) ∧ SqT K H a (ts.map .str) ∧ Dq K H v d ∧ Tabs T H ∧
  ∀ H', ExtN H H' → Tabs T H' → Q (.bl (lotB ts d)) H'
def spLmIl (K : PySem.W.Frag) : List (Option V) → Sp := fun ws vs H Q _ => ∃ (p a : Addr) (rest : List V) (ts : List Str) (v : V) (d : PyData), ws = [some (.ref p)] ∧ vs = [v] ∧ SqT K H p (.ref a :: rest) ∧ SqT K H a (ts.map .str) ∧ Dq K H v d ∧ Q (.bl (inTx d ts)) H
theorem ok_Il (F : FnP K "is_lot" i_is_lot f fd) (FB : FnP K "first_bad" i_first_bad fB fdB) (FI : FnP K "itself" i_itself fI fdI) (gB : mg "first_bad" = some (.ref fB)) (gI : mg "itself" = some (.ref fI)) (me : mg "enumerate" = none) (mi : mg "isinstance" = none) (mt : mg "tuple" = none) (ml : mg "len" = none)
    (hS : SysD K) (TB : TabOf base mg (codeA K f) TP T "is_lot.<locals>.<lambda>") : FnOk P w K mg base CX0 4 f fd ["world", "thing"] (spIl K T) := by
  have GB : FnC P w K mg base 3 fB fdB ["rows", "is_good", "key_of"] (spFb P w K mg base) := ok_Fb FB me
  have GI : FnOk P w K mg base CX0 1 fI fdI ["row"] spIts := ok_Its FI
  have bB : Binds K fdB ["rows", "is_good", "key_of"] [] := FB.bindsN fun _ _ _ _ _ _ us hl => match us, hl with | [_, _, _], _ => rfl
  have bI : Binds K fdI ["row"] [] := FI.bindsN fun _ _ _ _ _ _ us hl => match us, hl with | [_], _ => rfl
  refine Ly.FunD.okT F scIl (fun vs H Q E h => ?_) (fun A outer s H vs Q E hr h => ?_)
  · obtain ⟨p, a, rest, ts, v, d, rfl, _⟩ := h
    rfl
  · obtain ⟨p, a, rest, ts, v, d, rfl, hp, ha, hd, hT, hQ⟩ := h
    refine ⟨_, PSs.nox (pss_cons (ps_if (PW.pt (pw_or (pt_not (pt_val (pe_callB call_isD (by rfl) mi (by decide +kernel) (pa_cons (pv 1) (pa_cons (pe_tyN (T := "tuple") (by rfl) mt (by decide +kernel)) pa_nil)))))
        (pw_or1 (pt_cmpR op_eq (pe_callB call_len_seq (by rfl) ml PySem.boot_len (pa_cons (pv 1) pa_nil)) pe_int (nomark _))))) (pss_one (ps_ret pe_bl)) pss_nil)
      (pss_one (ps_ret (pe_cmpR op_isN (pe_callC (spX := fun σ vs H Q => ∀ pins s, Inv _ pins σ H s → spFb P w K mg base s vs H Q) GB (fun pins σ H s vs Q I h => h pins s I) hr (by rfl) gB FB.kp bB
        (pa_cons (pv 1) (pa_cons (pe_lm (T := T) TB.tb rfl TB.mem TB.own rfl (ndef_free (sc := defScope (topS i_is_lot)) (fr := ["world"]) (by decide +kernel))) (pa_cons (pe_glob (v := .ref fI) (by rfl) gI rfl) pa_nil)))) pe_non (nomark _))))), ?_⟩
    refine ⟨v, rfl, v, "tuple", d, _, rfl, hd, kit_tuple d, _, rfl, ?_⟩
    cases ht : isT d with
    | false =>
      refine iteT (iteT ?_)
      have z := hQ H (ExtN.refl H) hT
      rw [lotB_not ht] at z
      exact z
    | true =>
      obtain ⟨ds, rfl⟩ := isT_tup ht
      obtain ⟨x, xs, rfl, hx, hxs⟩ := hd.tup_of
      have lx := hxs.length
      refine iteF ⟨.ref x, rfl, x, xs, rfl, .inr hx, rfl, _, rfl, ?_⟩
      refine ite2 (fun z => ?_) (fun z => ?_)
      · have z := of_decide_eq_true z
        have e0 : ds = [] := by
          cases ds with
          | nil => rfl
          | cons _ _ =>
            rw [lx] at z
            simp only [V.int.injEq, List.length_cons] at z
            omega
        subst e0
        exact hQ H (ExtN.refl H) hT
      · have ne : ds ≠ [] := fun e => z (by
          subst e
          rw [lx]
          rfl)
        refine ⟨.ref x, rfl, hT, fun l c' H1 e1 n1 t1 hl hlo hco pins s' I => ?_⟩
        have C := cells_of I (Caps.made (scope := lsIl) (fr := ["world"]) (js := [0]) I.ok (ndef_free (sc := defScope (topS i_is_lot)) (nsc := lsIl) (fr := ["world"]) (by decide +kernel)) (ndef_fr (sc := defScope (topS i_is_lot)) (nsc := lsIl) (fr := ["world"]) (by decide +kernel)) rfl)
        refine ⟨x, l, fI, xs, oneOf ts, keyV, spLmIl K [some (.ref p)], spIts, rfl, callee_lam (sp := spLmIl K) (lok_of (N := ["tile", "world"]) (ps := ["tile"]) (fr := ["world"]) (k := 1) (show NScope _ _ _ lsIl from nscope_by (by decide +kernel)) (fun pm ctv us hl => ?_) (fun ws vs H Q E h => ?_) (fun A outer s H vs ws Q E hr hw h => ?_)) hlo hco C, (callee_def FI GI bI).mono (by decide), seqT_ext e1 hx, fun v hv H2 Q s2 hq => ?_, fun v hv gv H2 Q s2 hq => ?_, fun r H2 s2 r1 r2 => ?_⟩
        · exact match us, hl with | [_], _ => rfl
        · obtain ⟨p, a, rest, ts, v, d, _, rfl, _⟩ := h
          rfl
        · obtain ⟨p, a, rest, ts, v, d, rfl, rfl, hp, ha, hd, hQ⟩ := h
          exact ⟨_, pe_cmpR (op_inD hS (hu64 hr)) (pv 0) (pe_ix ix_tup (pv 1) pe_int (fun _ _ => rfl)) rfl, v, rfl, .ref p, rfl, p, _, (0 : Int), .ref a, rfl, rfl, hp, atI_nat (j := 0) (by rfl), d, a, ts, hd, rfl, ha, hQ⟩
        · obtain ⟨dv, mv, dq⟩ := hxs.mem hv
          refine ⟨p, a, rest, ts, v, dv, rfl, rfl, seqT_ext (e1.trans (Same.ext s2)) hp, seqT_ext (e1.trans (Same.ext s2)) ha, dq.ext (e1.trans (Same.ext s2)), ?_⟩
          rw [oneOf_eq ts dq]
          exact hq _ (fun _ _ z => z)
        · obtain ⟨t, rfl⟩ : ∃ t, v = .str t := by
            cases v with
            | str t => exact ⟨t, rfl⟩
            | _ => cases gv
          exact ⟨_, rfl, hq _ (fun _ _ z => z)⟩
        · refine ⟨rfl, ?_⟩
          have q := hQ H2 (e1.trans (Same.ext s2)) (t1.ext s2)
          rw [lot_fb hxs, decide_eq_false ne] at q
          cases hf : fbB (oneOf ts) keyV xs none with
          | true =>
            rw [r1 hf]
            rw [hf] at q
            exact q
          | false =>
            obtain ⟨j, ej⟩ := r2 hf
            rw [ej]
            rw [hf] at q
            exact q
end
end K01

namespace K01
open PySem PySem.Spec PyProof.Rows L2 LamX NdefX Ly
section
variable {P : Program} {w : World} {K : PySem.W.Frag} {mg : Str → Option Value} {base : Heap} {f fB fI : Addr} {fd fdB fdI : FuncData} {T : List (Addr × Str)} {TP : Addr}
theorem scLl : FnScope ["tiles", "thing"] ["tiles", "thing"] (defScope (topS i_law_is_lot)) := ⟨rfl, rfl, rfl, by decide +kernel, rfl, by decide +kernel, by decide +kernel⟩
abbrev lsLl : Scope := { kind := .function, names := [("one", .local), ("tiles", .free), ("isinstance", .globalImplicit), ("str", .globalImplicit)], isGenerator := false, isCoroutine := false }
/-- is it a LOT: v0 the TILES, in a tuple -/
def spLl (K : PySem.W.Frag) (T : List (Addr × Str)) : Sp := fun vs H Q _ => ∃ (a : Addr) (ts : List Str) (v : V) (d : PyData), vs = [.ref a, v] ∧ SqT K H a (ts.map .str) ∧ Dq K H v d ∧ Tabs T H ∧
  ∀ H', ExtN H H' → Tabs T H' → Q (.bl (lotB ts d)) H'
def spLmLl (K : PySem.W.Frag) : List (Option V) → Sp := fun ws vs H Q _ => ∃ (a : Addr) (ts : List Str) (v : V) (d : PyData), ws = [some (.ref a)] ∧ vs = [v] ∧ SqT K H a (ts.map .str) ∧ Dq K H v d ∧ Q (.bl (inTx d ts)) H
theorem ok_Ll (F : FnP K "_law_is_lot" i_law_is_lot f fd) (FB : FnP K "_law_first_fault" i_law_first_fault fB fdB) (FI : FnP K "_law_itself" i_law_itself fI fdI) (gB : mg "_law_first_fault" = some (.ref fB)) (gI : mg "_law_itself" = some (.ref fI)) (me : mg "enumerate" = none) (mi : mg "isinstance" = none) (mt : mg "tuple" = none) (ms : mg "str" = none)
    (hS : SysD K) (TB : TabOf base mg (codeA K f) TP T "_law_is_lot.<locals>.<lambda>") : FnOk P w K mg base CX0 4 f fd ["tiles", "thing"] (spLl K T) := by
  have GB : FnC P w K mg base 3 fB fdB ["things", "is_right", "key"] (spLf P w K mg base) := ok_Lf FB me
  have GI : FnOk P w K mg base CX0 1 fI fdI ["thing"] spLis := ok_Lis FI
  have bB : Binds K fdB ["things", "is_right", "key"] [] := FB.bindsN fun _ _ _ _ _ _ us hl => match us, hl with | [_, _, _], _ => rfl
  have bI : Binds K fdI ["thing"] [] := FI.bindsN fun _ _ _ _ _ _ us hl => match us, hl with | [_], _ => rfl
  refine Ly.FunD.okT F scLl (fun vs H Q E h => ?_) (fun A outer s H vs Q E hr h => ?_)
  · obtain ⟨a, ts, v, d, rfl, _⟩ := h
    rfl
  · obtain ⟨a, ts, v, d, rfl, ha, hd, hT, hQ⟩ := h
    refine ⟨_, PSs.nox (pss_cons (ps_if (PW.pt (pw_or (pt_not (pt_val (pe_callB call_isD (by rfl) mi (by decide +kernel) (pa_cons (pv 1) (pa_cons (pe_tyN (T := "tuple") (by rfl) mt (by decide +kernel)) pa_nil)))))
        (pw_or1 (pt_cmpR (op_eq0 hS (hu64 hr)) (pv 1) (pe_tup pa_nil) (nomark _))))) (pss_one (ps_ret pe_bl)) pss_nil)
      (pss_one (ps_ret (pe_cmpR op_isN (pe_callC (spX := fun σ vs H Q => ∀ pins s, Inv _ pins σ H s → spLf P w K mg base s vs H Q) GB (fun pins σ H s vs Q I h => h pins s I) hr (by rfl) gB FB.kp bB
        (pa_cons (pv 1) (pa_cons (pe_lm (T := T) TB.tb rfl TB.mem TB.own rfl (ndef_free (sc := defScope (topS i_law_is_lot)) (fr := ["tiles"]) (by decide +kernel))) (pa_cons (pe_glob (v := .ref fI) (by rfl) gI rfl) pa_nil)))) pe_non (nomark _))))), ?_⟩
    refine ⟨v, rfl, v, "tuple", d, _, rfl, hd, kit_tuple d, _, rfl, ?_⟩
    cases ht : isT d with
    | false =>
      refine iteT (iteT ?_)
      have z := hQ H (ExtN.refl H) hT
      rw [lotB_not ht] at z
      exact z
    | true =>
      obtain ⟨ds, rfl⟩ := isT_tup ht
      obtain ⟨x, xs, rfl, hx, hxs⟩ := hd.tup_of
      have lx := hxs.length
      refine iteF ⟨.ref x, rfl, few_line (by simp), fun p hp => ⟨x, p, ds, rfl, rfl, (hd.mono (same_new hp)), .inl (.inl upd_same), _, rfl, ?_⟩⟩
      have s0 : Same H (upd H p (.tup [])) := same_new hp
      have hT := hT.ext s0
      have hx := Same.seqT s0 hx
      have hxs := hxs.mono s0
      have ha := Same.seqT s0 ha
      have hQ : ∀ H', ExtN (upd H p (.tup [])) H' → Tabs T H' → Q (.bl (lotB ts (.tuple ds))) H' := fun H' e => hQ H' ((Same.ext s0).trans e)
      generalize upd H p (.tup []) = H at hT hx hxs ha hQ ⊢
      refine ite2 (fun z => ?_) (fun z => ?_)
      · have e0 : ds = [] := of_decide_eq_true z
        subst e0
        exact hQ H (ExtN.refl H) hT
      · have ne : ds ≠ [] := fun e => z (decide_eq_true e)
        refine ⟨.ref x, rfl, hT, fun l c' H1 e1 n1 t1 hl hlo hco pins s' I => ?_⟩
        have C := cells_of I (Caps.made (scope := lsLl) (fr := ["tiles"]) (js := [0]) I.ok (ndef_free (sc := defScope (topS i_law_is_lot)) (nsc := lsLl) (fr := ["tiles"]) (by decide +kernel)) (ndef_fr (sc := defScope (topS i_law_is_lot)) (nsc := lsLl) (fr := ["tiles"]) (by decide +kernel)) rfl)
        refine ⟨x, l, fI, xs, oneOf ts, keyV, spLmLl K [some (.ref a)], spLis, rfl, callee_lam (sp := spLmLl K) (lok_of (N := ["one", "tiles"]) (ps := ["one"]) (fr := ["tiles"]) (k := 1) (show NScope ["one", "tiles"] ["one"] ["tiles"] lsLl from nscope_by (by decide +kernel)) (fun pm ctv us hl => ?_) (fun ws vs H Q E h => ?_) (fun A outer s H vs ws Q E hr hw h => ?_)) hlo hco C, (callee_def FI GI bI).mono (by decide), seqT_ext e1 hx, fun v hv H2 Q s2 hq => ?_, fun v hv gv H2 Q s2 hq => ?_, fun r H2 s2 r1 r2 => ?_⟩
        · exact match us, hl with | [_], _ => rfl
        · obtain ⟨a, ts, v, d, _, rfl, _⟩ := h
          rfl
        · obtain ⟨a, ts, v, d, rfl, rfl, ha, hd, hQ⟩ := h
          refine ⟨_, pe_and (pe_callB call_isD (by rfl) mi (by decide +kernel) (pa_cons (pv 0) (pa_cons (pe_tyN (T := "str") (by rfl) ms (by decide +kernel)) pa_nil))) (pe_one (pe_cmpR (op_inD hS (hu64 hr)) (pv 0) (pv 1) rfl)), v, rfl, v, "str", d, _, rfl, hd, kit_str d, _, rfl, ?_⟩
          cases e : isS d with
          | true => exact iteT ⟨v, rfl, .ref a, rfl, d, a, ts, hd, rfl, ha, hQ⟩
          | false =>
            refine iteF ?_
            have z : inTx d ts = false := by cases d <;> first | rfl | cases e
            rw [z] at hQ
            exact hQ
        · obtain ⟨dv, mv, dq⟩ := hxs.mem hv
          refine ⟨a, ts, v, dv, rfl, rfl, seqT_ext (e1.trans (Same.ext s2)) ha, dq.ext (e1.trans (Same.ext s2)), ?_⟩
          rw [oneOf_eq ts dq]
          exact hq _ (fun _ _ z => z)
        · obtain ⟨t, rfl⟩ : ∃ t, v = .str t := by
            cases v with
            | str t => exact ⟨t, rfl⟩
            | _ => cases gv
          exact ⟨_, rfl, hq _ (fun _ _ z => z)⟩
        · refine ⟨rfl, ?_⟩
          have q := hQ H2 (e1.trans (Same.ext s2)) (t1.ext s2)
          rw [lot_fb hxs, decide_eq_false ne] at q
          cases hf : fbB (oneOf ts) keyV xs none with
          | true =>
            rw [r1 hf]
            rw [hf] at q
            exact q
          | false =>
            obtain ⟨j, ej⟩ := r2 hf
            rw [ej]
            rw [hf] at q
            exact q
end
end K01

namespace K01
open PySem PySem.Spec PyProof.Rows L2 LamX NdefX Ly
section
variable {P : Program} {w : World} {K : PySem.W.Frag} {mg : Str → Option Value} {base : Heap} {f fB fI fL : Addr} {fd fdB fdI fdL : FuncData} {T : List (Addr × Str)} {TP : Addr}
abbrev nmTl : List Str := ["world", "thing", "around", "others", "lot", "tile"]
theorem scTl : FnScope nmTl ["world", "thing"] (defScope (topS i_is_told)) := ⟨rfl, rfl, rfl, by decide +kernel, rfl, by decide +kernel, by decide +kernel⟩
/-- is it a TOLD LOT -/
def spTl (K : PySem.W.Frag) (T : List (Addr × Str)) : Sp := fun vs H Q _ => ∃ (p a a4 : Addr) (v1 v2 v3 : V) (ts : List Str) (ks : List (Addr × List Str)) (v : V) (d : PyData), vs = [.ref p, v] ∧ SqT K H p [.ref a, v1, v2, v3, .ref a4] ∧ SqT K H a (ts.map .str) ∧ SqT K H a4 (refsOf ks) ∧ Tups K H ks ∧ Dq K H v d ∧ Tabs T H ∧
  ts.Nodup ∧ (ts.Pairwise fun a b => leS a b = true) ∧ ts.length ≤ 4 ∧ ks.length ≤ 20 ∧ (∀ q ∈ ks, q.2.Sublist ts) ∧
  ∀ b H', ExtN H H' → Tabs T H' → (b = true ↔ lotB ts d = true ∧ ∃ r, d = rowD r ∧ TldP (ks.map (·.2)) ts r) → Q (.bl b) H'
theorem ok_Tl (F : FnP K "is_told" i_is_told f fd) (FL : FnP K "is_lot" i_is_lot fL fdL) (gL : mg "is_lot" = some (.ref fL)) (FB : FnP K "first_bad" i_first_bad fB fdB) (FI : FnP K "itself" i_itself fI fdI) (gB : mg "first_bad" = some (.ref fB)) (gI : mg "itself" = some (.ref fI)) (me : mg "enumerate" = none) (mi : mg "isinstance" = none) (mt : mg "tuple" = none) (ml : mg "len" = none)
    (mA : mg "all" = none) (mN : mg "any" = none) (hS : SysD K) (TB : TabOf base mg (codeA K fL) TP T "is_lot.<locals>.<lambda>") : FnOk P w K mg base CX0 5 f fd ["world", "thing"] (spTl K T) := by
  have GL : FnOk P w K mg base CX0 4 fL fdL ["world", "thing"] (spIl K T) := ok_Il FL FB FI gB gI me mi mt ml hS TB
  have bL : Binds K fdL ["world", "thing"] [] := FL.bindsN fun _ _ _ _ _ _ us hl => match us, hl with | [_, _], _ => rfl
  refine F.ok scTl (fun vs H Q E h => ?_) (fun cd A outer s H vs Q E hr h => ?_)
  · obtain ⟨p, a, a4, v1, v2, v3, ts, ks, v, d, rfl, _⟩ := h
    rfl
  · obtain ⟨p, a, a4, v1, v2, v3, ts, ks, v, d, rfl, hp, ha, h4, tk, hd, hT, nd, asc, few, few4, sub, hQ⟩ := h
    refine ⟨_, PSs.nox (pss_cons (ps_if (pt_not (pt_val (pe_call GL hr (by rfl) gL FL.kp bL .nil pass0 (pa_cons (pv 0) (pa_cons (pv 1) pa_nil))))) (pss_one (ps_ret pe_bl)) pss_nil)
      (pss_cons (ps_if (pt_cmpR op_eq (pe_callB call_len_seq (by rfl) ml PySem.boot_len (pa_cons (pv 1) pa_nil)) pe_int (nomark _)) (pss_one (ps_ret pe_bl)) pss_nil)
      (pss_cons (ps_set (i := 2) scTl.nd rfl (.inr rfl) (pe_lc (own := [("lot", 4)]) (g := gName 4) (tt := tB (tCB (rAll K) (tCons (tLc (iTup K (tVar 1)) (gName 5) tYes (tOp (rIn K false) (tVar 5) (tVar 4)) [5]) tNil))) (te := tVar 4) rfl scTl.nd (pi_tup (pe_ix ix_tup (pv 0) pe_int (fun _ _ => rfl))) (blkOk_by (N := nmTl) (sc := defScope (topS i_is_told)) (by decide +kernel))
          (fun _ _ _ _ _ => pg_name (i := 4) scTl.nd rfl (Or.inr rfl)) (fun _ _ _ _ _ => pts_one (pt_val (pe_callB (cr_all rfl) (by rfl) mA (by decide +kernel) (pa_cons (pe_lc (own := [("tile", 5)]) (g := gName 5) (tt := tYes) (te := tOp (rIn K false) (tVar 5) (tVar 4)) rfl scTl.nd (pi_tup (pv 1))
            (blkOk_by (N := nmTl) (sc := { kind := .function, names := [(".0", .local), ("lot", .cell), ("all", .globalImplicit), ("thing", .cell)], isGenerator := false, isCoroutine := false }) (by decide +kernel))
            (fun _ _ _ _ _ => pg_name (i := 5) scTl.nd rfl (Or.inl rfl)) (fun _ _ _ _ _ => pts_nil) (fun _ _ _ _ _ => pe_cmpR op_in_seq (pv 5) (pv 4) rfl)) pa_nil)))) (fun _ _ _ _ _ => pv 4)))
      (pss_cons (ps_setLc (i := 3) (own := [("tile", 5)]) (g := gName 5) (tt := tTest (tOp (rIn K true) (tVar 5) (tVar 1))) (te := tVar 5) rfl scTl.nd rfl rfl (sw_true rfl rfl rfl (by decide +kernel)) (pi_tup (pe_ix ix_tup (pv 0) pe_int (fun _ _ => rfl))) (blkOk_by (N := nmTl) (sc := defScope (topS i_is_told)) (by decide +kernel))
          (fun _ _ _ _ _ => pg_name (i := 5) scTl.nd rfl (Or.inl rfl)) (fun _ _ _ _ _ => pts_one (pt_cmpR op_notIn_seq (pv 5) (pv 1) rfl)) (fun _ _ _ _ _ => pv 5))
      (pss_one (ps_ret (pe_callB (cr_all rfl) (by rfl) mA (by decide +kernel) (pa_cons (pe_lc (own := [("tile", 5)]) (g := gName 5) (tt := tYes) (te := tCB (rAny K) (tCons (tLc (iList K (tVar 2)) (gName 4) tYes (tOp (rIn K true) (tVar 5) (tVar 4)) [4]) tNil)) rfl scTl.nd (pi_list (pv 3)) (blkOk_by (N := nmTl) (sc := defScope (topS i_is_told)) (by decide +kernel))
          (fun _ _ _ _ _ => pg_name (i := 5) scTl.nd rfl (Or.inr rfl)) (fun _ _ _ _ _ => pts_nil) (fun _ _ _ _ _ => pe_callB (cr_any rfl) (by rfl) mN (by decide +kernel) (pa_cons (pe_lc (own := [("lot", 4)]) (g := gName 4) (tt := tYes) (te := tOp (rIn K true) (tVar 5) (tVar 4)) rfl scTl.nd (pi_list (pv 2))
            (blkOk_by (N := nmTl) (sc := { kind := .function, names := [(".0", .local), ("tile", .cell), ("any", .globalImplicit), ("around", .cell)], isGenerator := false, isCoroutine := false }) (by decide +kernel))
            (fun _ _ _ _ _ => pg_name (i := 4) scTl.nd rfl (Or.inl rfl)) (fun _ _ _ _ _ => pts_nil) (fun _ _ _ _ _ => pe_cmpR op_notIn_seq (pv 5) (pv 4) rfl)) pa_nil))) pa_nil)))))))), ?_⟩
    refine ⟨.ref p, rfl, v, rfl, p, a, _, ts, v, d, rfl, hp, ha, hd, hT, fun H1 e1 t1 => ⟨_, rfl, ?_⟩⟩
    cases el : lotB ts d with
    | false =>
      refine iteT (hQ _ _ e1 t1 ⟨fun z => (nomatch z), fun z => ?_⟩)
      rw [el] at z
      cases z.1
    | true =>
      obtain ⟨r, rfl, ne, sr⟩ := lotB_row nd asc el
      obtain ⟨x, rfl, hx⟩ := row_of hd
      have hp1 := seqT_ext e1 hp
      have ha1 := seqT_ext e1 ha
      have h41 := seqT_ext e1 h4
      have hx1 := seqT_ext e1 hx
      have tk1 : Tups K H1 ks := fun q m => seqT_ext e1 (tk q m)
      have hQ1 : ∀ b H', Same H1 H' → (b = true ↔ TldP (ks.map (·.2)) ts r) → Q (.bl b) H' := fun b H' s z => hQ b H' (e1.trans (Same.ext s)) (t1.ext s) ⟨fun y => ⟨el, r, rfl, z.mp y⟩, fun ⟨_, r', e, y⟩ => z.mpr (by rw [row_inj e]; exact y)⟩
      have lr : r.length ≤ 4 := Nat.le_trans sr.length_le few
      refine iteF ⟨.ref x, rfl, x, _, rfl, .inr hx1, rfl, _, rfl, ite2 (fun z => ?_) (fun z => ?_)⟩
      · have z := of_decide_eq_true z
        refine hQ1 _ _ (Same.refl _) ⟨fun _ => .inl ?_, fun _ => rfl⟩
        simp only [V.int.injEq, List.length_map] at z
        omega
      · have no1 : r.length ≠ 1 := fun e => z (by
          rw [List.length_map, e]
          rfl)
        refine ⟨.ref p, rfl, p, _, 4, .ref a4, rfl, rfl, hp1, rfl, a4, rfl, ⟨_, h41⟩, fun D hD => lc_tup (K := K) (a := a4) (xs := refsOf ks) (fun j H' => Same H1 H' ∧ H' D = some (.lst (refsOf ((ks.take j).filter fun q => r.all fun x => decide (x ∈ q.2)))))
          ⟨same_new hD, upd_same⟩ (fun j H' _ h' => Same.seqT h'.1 h41) ?_ ?_⟩
        · rintro j v H2 hj ⟨s2, h2⟩
          obtain ⟨q, hq, rfl⟩ := ref_at hj
          have mq := List.mem_of_getElem? hq
          have tq := Same.seqT s2 (tk1 q mq)
          refine ⟨rfl, .ref x, rfl, x, rfl, ⟨_, Same.seqT s2 hx1⟩, fun D2 hD2 => lc_blT (K := K) (ys := r) (vf := V.str) (q := fun x => decide (x ∈ q.2)) (Same.seqT s2 hx1) (by omega) hD2 (fun y my H3 s3 R hR => ?_) (fun H3 s3 h3 => ?_)⟩
          · refine ⟨.str y, rfl, .ref q.1, rfl, q.1, q.2.map V.str, rfl, .inr (Same.seqT s3 tq), rfl, flat_strV _, ?_⟩
            have z := hR H3 (Same.refl _)
            rw [← inV_str] at z
            exact z
          · refine ⟨D2, _, rfl, .inl (.inl h3), _, rfl, ?_⟩
            have h23 := s3 _ _ h2
            rw [List.all_map]
            refine ite2' (fun e => ?_) (fun e => ?_)
            · have e : (r.all fun x => decide (x ∈ q.2)) = true := e
              refine ⟨.ref q.1, rfl, _, h23, ?_, Same.wr (s2.trans s3) hD, ?_⟩
              · rw [refs_len]
                have z := List.length_filter_le (fun q : Addr × List Str => r.all fun x => decide (x ∈ q.2)) (ks.take j)
                rw [List.length_take] at z
                exact fewer (by omega)
              · rw [upd_same, take_step hq, List.filter_append, List.filter_cons_of_pos (p := fun q : Addr × List Str => r.all fun x => decide (x ∈ q.2)) e, refs_app]
                rfl
            · have e : (r.all fun x => decide (x ∈ q.2)) = false := e
              refine ⟨s2.trans s3, ?_⟩
              rw [take_step hq, List.filter_append, List.filter_cons_of_neg (by rw [e]; exact Bool.false_ne_true)]
              rw [h23]
              simp
        rintro H2 ⟨s2, h2⟩
        rw [refs_len, List.take_length] at h2
        obtain ⟨ls, els⟩ : ∃ ls, ls = ks.filter fun q => r.all fun x => decide (x ∈ q.2) := ⟨_, rfl⟩
        rw [← els] at h2
        have lls : ls.length ≤ 20 := by
          rw [els]
          exact Nat.le_trans (List.length_filter_le _ _) few4
        have tl2 : Tups K H2 ls := fun q m => Same.seqT s2 (tk1 q (by
          rw [els] at m
          exact (List.mem_filter.mp m).1))
        refine ⟨.ref p, rfl, p, _, 0, .ref a, rfl, rfl, Same.seqT s2 hp1, rfl, a, rfl, ⟨_, Same.seqT s2 ha1⟩, fun D2 hD2 => lc_filt (K := K) (a := a) (ts := ts) (q := fun t => !decide (t ∈ r)) (Same.seqT s2 ha1) (by omega) hD2 (by show 5 < 6; decide) (fun y my H3 s3 R hR => ?_) (fun H3 s3 h3 => ?_)⟩
        · refine ⟨.str y, rfl, .ref x, rfl, x, r.map V.str, rfl, .inr (Same.seqT (s2.trans s3) hx1), rfl, flat_strV _, _, rfl, ?_⟩
          have z := hR H3 (Same.refl _)
          rw [← inV_str] at z
          exact z
        · have h23 := s3 _ _ h2
          refine ⟨.ref D2, rfl, D2, rfl, ⟨_, .inl (.inl h3)⟩, fun D3 hD3 => lc_blL (K := K) (ys := ts.filter fun t => !decide (t ∈ r)) (vf := V.str) (q := fun t => ls.any fun l => !decide (t ∈ l.2)) (.inl (.inl h3)) (Nat.le_trans (List.length_filter_le _ _) (by omega)) hD3 (fun y my H4 s4 R hR => ?_) (fun H4 s4 h4 => ?_)⟩
          · refine ⟨.ref D, rfl, D, rfl, ⟨_, .inl (.inl (s4 _ _ h23))⟩, fun D5 hD5 => lc_blL (K := K) (ys := ls) (vf := fun q => V.ref q.1) (q := fun l => !decide (y ∈ l.2)) (.inl (.inl (s4 _ _ h23))) (by omega) hD5 (fun l ml H5 s5 R hR => ?_) (fun H5 s5 h5 => ?_)⟩
            · refine ⟨.str y, rfl, .ref l.1, rfl, l.1, l.2.map V.str, rfl, .inr (Same.seqT ((s3.trans s4).trans s5) (tl2 l ml)), rfl, flat_strV _, ?_⟩
              have z := hR H5 (Same.refl _)
              rw [← inV_str] at z
              exact z
            · refine ⟨D5, _, rfl, .inl (.inl h5), ?_⟩
              rw [List.any_map]
              exact hR H5 s5
          · refine ⟨D3, _, rfl, .inl (.inl h4), ?_⟩
            rw [List.all_map]
            refine hQ1 _ _ ((s2.trans s3).trans s4) ?_
            unfold TldP
            rw [List.all_eq_true]
            constructor
            · refine fun h => .inr fun t mt nt => ?_
              have z := h t (List.mem_filter.mpr ⟨mt, by simp [nt]⟩)
              simp only [Function.comp_apply, id_eq, List.any_eq_true, Bool.not_eq_true', decide_eq_false_iff_not, els, List.mem_filter, List.all_eq_true, decide_eq_true_eq] at z
              obtain ⟨l, ⟨m1, m2⟩, m3⟩ := z
              exact ⟨l.2, List.mem_map.mpr ⟨l, m1, rfl⟩, m2, m3⟩
            · rintro (h | h) t mt
              · exact absurd h no1
              · obtain ⟨m1, m2⟩ := List.mem_filter.mp mt
                obtain ⟨l, ml, g1, g2⟩ := h t m1 (by simpa using m2)
                obtain ⟨q, mq, rfl⟩ := List.mem_map.mp ml
                simp only [Function.comp_apply, id_eq, List.any_eq_true, Bool.not_eq_true', decide_eq_false_iff_not, els, List.mem_filter, List.all_eq_true, decide_eq_true_eq]
                exact ⟨q, ⟨mq, g1⟩, g2⟩
end
end K01

namespace K01
open PySem PySem.Spec PyProof.Rows L2 LamX NdefX Ly
section
variable {P : Program} {w : World} {K : PySem.W.Frag} {mg : Str → Option Value} {base : Heap} {f : Addr} {fd : FuncData}
theorem scIi : FnScope ["thing"] ["thing"] (defScope (topS i_is_integer)) := ⟨rfl, rfl, rfl, by decide +kernel, rfl, by decide +kernel, by decide +kernel⟩
theorem scLi : FnScope ["thing"] ["thing"] (defScope (topS i_law_is_int)) := ⟨rfl, rfl, rfl, by decide +kernel, rfl, by decide +kernel, by decide +kernel⟩
def spInt (K : PySem.W.Frag) : Sp := fun vs H Q _ => ∃ (v : V) (d : PyData), vs = [v] ∧ Dq K H v d ∧ Q (.bl (intB d)) H
theorem ok_Ii (F : FnP K "is_integer" i_is_integer f fd) (mi : mg "isinstance" = none) (mn : mg "int" = none) (mb : mg "bool" = none) : FnOk P w K mg base CX0 1 f fd ["thing"] (spInt K) := by
  refine F.ok scIi (fun vs H Q E h => ?_) (fun cd A outer s H vs Q E hr h => ?_)
  · obtain ⟨v, d, rfl, _⟩ := h
    rfl
  · obtain ⟨v, d, rfl, hd, hQ⟩ := h
    refine ⟨_, PSs.nox (pss_one (ps_ret (pe_and (pe_callB call_isD (by rfl) mi (by decide +kernel) (pa_cons (pv 0) (pa_cons (pe_tyN (T := "int") (by rfl) mn (by decide +kernel)) pa_nil)))
      (pe_one (pe_not (pe_callB call_isD (by rfl) mi (by decide +kernel) (pa_cons (pv 0) (pa_cons (pe_tyN (T := "bool") (by rfl) mb (by decide +kernel)) pa_nil)))))))), ?_⟩
    refine ⟨v, rfl, v, "int", d, _, rfl, hd, kit_int d, _, rfl, ?_⟩
    unfold intB at hQ
    refine ite2' (fun e => ?_) (fun e => ?_)
    · rw [e, Bool.true_and] at hQ
      exact ⟨v, rfl, v, "bool", d, _, rfl, hd, kit_bool d, _, rfl, hQ⟩
    · rw [e, Bool.false_and] at hQ
      exact hQ
theorem ok_Li (F : FnP K "_law_is_int" i_law_is_int f fd) (mi : mg "isinstance" = none) (mn : mg "int" = none) (mb : mg "bool" = none) : FnOk P w K mg base CX0 1 f fd ["thing"] (spInt K) := by
  refine F.ok scLi (fun vs H Q E h => ?_) (fun cd A outer s H vs Q E hr h => ?_)
  · obtain ⟨v, d, rfl, _⟩ := h
    rfl
  · obtain ⟨v, d, rfl, hd, hQ⟩ := h
    refine ⟨_, PSs.nox (pss_one (ps_ret (pe_and (pe_callB call_isD (by rfl) mi (by decide +kernel) (pa_cons (pv 0) (pa_cons (pe_tyN (T := "int") (by rfl) mn (by decide +kernel)) pa_nil)))
      (pe_one (pe_not (pe_callB call_isD (by rfl) mi (by decide +kernel) (pa_cons (pv 0) (pa_cons (pe_tyN (T := "bool") (by rfl) mb (by decide +kernel)) pa_nil)))))))), ?_⟩
    refine ⟨v, rfl, v, "int", d, _, rfl, hd, kit_int d, _, rfl, ?_⟩
    unfold intB at hQ
    refine ite2' (fun e => ?_) (fun e => ?_)
    · rw [e, Bool.true_and] at hQ
      exact ⟨v, rfl, v, "bool", d, _, rfl, hd, kit_bool d, _, rfl, hQ⟩
    · rw [e, Bool.false_and] at hQ
      exact hQ
theorem isS_str {d : PyData} (h : isS d = true) : ∃ s, d = .str s := by
  cases d <;> first | exact ⟨_, rfl⟩ | cases h
theorem isName_not {d : PyData} (h : isS d = false) : isName d = false := by
  cases d <;> first | rfl | cases h
theorem scIm : FnScope ["thing", "sign"] ["thing"] (defScope (topS i_is_name)) := ⟨rfl, rfl, rfl, by decide +kernel, rfl, by decide +kernel, by decide +kernel⟩
/-- is it a name -/
def spNm (K : PySem.W.Frag) : Sp := fun vs H Q _ => ∃ (v : V) (d : PyData), vs = [v] ∧ Dq K H v d ∧ (∀ s, d = .str s → s.cps.size ≤ 1000) ∧ ∀ H', Same H H' → Q (.bl (isName d)) H'
theorem ok_Im (F : FnP K "is_name" i_is_name f fd) (mi : mg "isinstance" = none) (ms : mg "str" = none) (ml : mg "len" = none) (mA : mg "all" = none) {t1 t2 t3 : Tok} (g1 : mg "LETTERS" = some (.str letters t1)) (g2 : mg "NAME_SIGNS" = some (.str signs t2)) (g3 : mg "LONGEST_NAME" = some (.int 12 t3)) :
    FnOk P w K mg base CX0 1 f fd ["thing"] (spNm K) := by
  refine F.ok scIm (fun vs H Q E h => ?_) (fun cd A outer s H vs Q E hr h => ?_)
  · obtain ⟨v, d, rfl, _⟩ := h
    rfl
  · obtain ⟨v, d, rfl, hd, sm, hQ⟩ := h
    refine ⟨_, PSs.nox (pss_cons (ps_if (PW.pt (pw_or (pt_not (pt_val (pe_callB call_isD (by rfl) mi (by decide +kernel) (pa_cons (pv 0) (pa_cons (pe_tyN (T := "str") (by rfl) ms (by decide +kernel)) pa_nil)))))
        (pw_or1 (pt_not (pt_chain op_le op_le pe_int (pe_callB call_len_str (by rfl) ml PySem.boot_len (pa_cons (pv 0) pa_nil)) (pe_glob (v := .int 12) (by rfl) g3 ⟨_, rfl⟩)))))) (pss_one (ps_ret pe_bl)) pss_nil)
      (pss_one (ps_ret (pe_and (pe_cmpR op_in_sign (pe_ix ix_str (pv 0) pe_int (fun _ _ => rfl)) (pe_glob (v := .str letters) (by rfl) g1 ⟨_, rfl⟩) rfl) (pe_one (pe_callB (cr_all rfl) (by rfl) mA (by decide +kernel) (pa_cons (pe_lc (own := [("sign", 1)]) (g := gName 1) (tt := tYes) rfl scIm.nd (pi_str (pv 0)) (blkOk_by (N := ["thing", "sign"]) (sc := defScope (topS i_is_name)) (by decide +kernel))
        (fun _ _ _ _ _ => pg_name (i := 1) scIm.nd rfl (Or.inl rfl)) (fun _ _ _ _ _ => pts_nil) (fun _ _ _ _ _ => pe_cmpR op_in_sign (pv 1) (pe_glob (v := .str signs) (by rfl) g2 ⟨_, rfl⟩) rfl)) pa_nil))))))), ?_⟩
    refine ⟨v, rfl, v, "str", d, _, rfl, hd, kit_str d, _, rfl, ?_⟩
    cases es : isS d with
    | false =>
      refine iteT (iteT ?_)
      rw [isName_not es] at hQ
      exact hQ H (Same.refl _)
    | true =>
      obtain ⟨z, rfl⟩ := isS_str es
      have e := hd.str_of
      subst e
      have sz := sm z rfl
      refine iteF ?_
      have lz : z.length = z.cps.toList.length := by simp [Str.length]
      have hz : z.length ≤ sizeLine := by
        rw [lz, Array.length_toList]
        exact Nat.le_of_lt (small1000 sz)
      have hQ : ∀ H', Same H H' → Q (.bl (nameB z)) H' := hQ
      have bad : ¬ (1 ≤ z.cps.toList.length ∧ z.cps.toList.length ≤ 12) → Q (.bl false) H := fun n => by
        have y := hQ H (Same.refl _)
        rw [nameB, decide_eq_false n] at y
        exact y
      refine ⟨.str z, rfl, z, rfl, hz, 1, _, rfl, rfl, _, rfl, ite2' (fun c1 => ?_) (fun c1 => ?_)⟩
      · refine ⟨_, _, rfl, rfl, _, rfl, ite2' (fun c2 => ?_) (fun c2 => ?_)⟩
        · refine bad fun h => ?_
          rw [lz] at c2
          simp only [Bool.not_eq_true', decide_eq_false_iff_not] at c2
          omega
        · have ok : 1 ≤ z.cps.toList.length ∧ z.cps.toList.length ≤ 12 := by
            rw [lz] at c1 c2
            simp only [Bool.not_eq_false', decide_eq_true_eq] at c1 c2
            omega
          rw [nameB, decide_eq_true ok, Bool.true_and] at hQ
          obtain ⟨c0, cs, ec⟩ : ∃ c0 cs, z.cps.toList = c0 :: cs := by
            cases e : z.cps.toList with
            | nil =>
              rw [e] at ok
              exact absurd ok.1 (by simp)
            | cons c0 cs => exact ⟨_, _, rfl⟩
          refine ⟨.str z, rfl, z, 0, c0, rfl, rfl, hz, atI_nat (j := 0) (by rw [ec]; rfl), c0, letters, rfl, rfl, _, rfl, ?_⟩
          rw [mem_letters]
          have e0 : z.cps.toList.headD 0 = c0 := by rw [ec]; rfl
          rw [e0] at hQ
          refine ite2' (fun c3 => ?_) (fun c3 => ?_)
          · rw [c3, Bool.true_and] at hQ
            refine ⟨.str z, rfl, z, rfl, fun D hD => lc_blS (q := goodC) sz hD (fun c mc H3 s3 R hR => ?_) (fun H3 s3 h3 => ?_)⟩
            · refine ⟨.str ⟨#[c]⟩, rfl, c, signs, rfl, rfl, ?_⟩
              rw [mem_signs]
              exact hR H3 (Same.refl _)
            · refine ⟨D, _, rfl, .inl (.inl h3), ?_⟩
              rw [List.all_map]
              exact hQ H3 s3
          · rw [c3, Bool.false_and] at hQ
            exact hQ H (Same.refl _)
      · refine ⟨_, rfl, iteT (bad fun h => ?_)⟩
        rw [lz] at c1
        simp only [decide_eq_false_iff_not] at c1
        omega
end
end K01

namespace K01
open PySem PySem.Spec PyProof.Rows L2 LamX NdefX Ly
section
variable {P : Program} {w : World} {K : PySem.W.Frag} {mg : Str → Option Value} {base : Heap} {f : Addr} {fd : FuncData}
theorem scLn : FnScope ["thing", "sign"] ["thing"] (defScope (topS i_law_is_name)) := ⟨rfl, rfl, rfl, by decide +kernel, rfl, by decide +kernel, by decide +kernel⟩
theorem le_one {c : Nat} : (!decide ((⟨#[c]⟩ : Str).cps.toList < ("a" : Str).cps.toList)) = decide (97 ≤ c) := one_le c 97
theorem le_z {c : Nat} : (!decide (("z" : Str).cps.toList < (⟨#[c]⟩ : Str).cps.toList)) = decide (c ≤ 122) := one_le 122 c
theorem le_0 {c : Nat} : (!decide ((⟨#[c]⟩ : Str).cps.toList < ("0" : Str).cps.toList)) = decide (48 ≤ c) := one_le c 48
theorem le_9 {c : Nat} : (!decide (("9" : Str).cps.toList < (⟨#[c]⟩ : Str).cps.toList)) = decide (c ≤ 57) := one_le 57 c
theorem ok_Ln (F : FnP K "_law_is_name" i_law_is_name f fd) (mi : mg "isinstance" = none) (ms : mg "str" = none) (ml : mg "len" = none) :
    FnOk P w K mg base CX0 1 f fd ["thing"] (spNm K) := by
  refine F.ok scLn (fun vs H Q E h => ?_) (fun cd A outer s H vs Q E hr h => ?_)
  · obtain ⟨v, d, rfl, _⟩ := h
    rfl
  · obtain ⟨v, d, rfl, hd, sm, hQ⟩ := h
    refine ⟨_, PSs.nox (pss_cons (ps_if (PW.pt (pw_or (pt_not (pt_val (pe_callB call_isD (by rfl) mi (by decide +kernel) (pa_cons (pv 0) (pa_cons (pe_tyN (T := "str") (by rfl) ms (by decide +kernel)) pa_nil)))))
        (pw_or (pt_not (pt_chain op_le op_le pe_int (pe_callB call_len_str (by rfl) ml PySem.boot_len (pa_cons (pv 0) pa_nil)) pe_int))
          (pw_or1 (pt_not (pt_chain op_le_str op_le_str pe_str (pe_ix ix_str (pv 0) pe_int (fun _ _ => rfl)) pe_str)))))) (pss_one (ps_ret pe_bl)) pss_nil)
      (pss_one (ps_ret (pe_cmpR (op_eq0L (hu64 hr)) (pe_lc (own := [("sign", 1)]) (g := gName 1) (te := tVar 1) rfl scLn.nd (pi_str (pv 0)) (blkOk_by (N := ["thing", "sign"]) (sc := defScope (topS i_law_is_name)) (by decide +kernel))
        (fun _ _ _ _ _ => pg_name (i := 1) scLn.nd rfl (Or.inl rfl)) (fun _ _ _ _ _ => pts_one (pt_not (PW.pt (pw_or (pt_chain op_le_str op_le_str pe_str (pv 1) pe_str) (pw_or1 (pt_chain op_le_str op_le_str pe_str (pv 1) pe_str)))))) (fun _ _ _ _ _ => pv 1)) (pe_lst pa_nil) (nomark _))))), ?_⟩
    refine ⟨v, rfl, v, "str", d, _, rfl, hd, kit_str d, _, rfl, ?_⟩
    cases es : isS d with
    | false =>
      refine iteT (iteT ?_)
      rw [isName_not es] at hQ
      exact hQ H (Same.refl _)
    | true =>
      obtain ⟨z, rfl⟩ := isS_str es
      have e := hd.str_of
      subst e
      have sz := sm z rfl
      refine iteF ?_
      have lz : z.length = z.cps.toList.length := by simp [Str.length]
      have hz : z.length ≤ sizeLine := by
        rw [lz, Array.length_toList]
        exact Nat.le_of_lt (small1000 sz)
      have hQ : ∀ H', Same H H' → Q (.bl (nameB z)) H' := hQ
      have bad : ¬ (1 ≤ z.cps.toList.length ∧ z.cps.toList.length ≤ 12) → Q (.bl false) H := fun n => by
        have y := hQ H (Same.refl _)
        rw [nameB, decide_eq_false n] at y
        exact y
      refine ⟨.str z, rfl, z, rfl, hz, 1, _, rfl, rfl, _, rfl, ite2' (fun c1 => ?_) (fun c1 => ?_)⟩
      · refine ⟨_, _, rfl, rfl, _, rfl, ite2' (fun c2 => ?_) (fun c2 => ?_)⟩
        · refine iteT (bad fun h => ?_)
          rw [lz] at c2
          simp only [Bool.not_eq_true', decide_eq_false_iff_not] at c2
          omega
        · have ok : 1 ≤ z.cps.toList.length ∧ z.cps.toList.length ≤ 12 := by
            rw [lz] at c1 c2
            simp only [Bool.not_eq_false', decide_eq_true_eq] at c1 c2
            omega
          rw [nameB, decide_eq_true ok, Bool.true_and] at hQ
          obtain ⟨c0, cs, ec⟩ : ∃ c0 cs, z.cps.toList = c0 :: cs := by
            cases e : z.cps.toList with
            | nil =>
              rw [e] at ok
              exact absurd ok.1 (by simp)
            | cons c0 cs => exact ⟨_, _, rfl⟩
          have e0 : z.cps.toList.headD 0 = c0 := by rw [ec]; rfl
          rw [e0] at hQ
          have no : aZ c0 = false → Q (.bl false) H := fun n => by
            have y := hQ H (Same.refl _)
            rw [n, Bool.false_and] at y
            exact y
          refine ⟨.str z, rfl, z, 0, c0, rfl, rfl, hz, atI_nat (j := 0) (by rw [ec]; rfl), "a", ⟨#[c0]⟩, rfl, rfl, _, rfl, ?_⟩
          rw [le_one]
          refine ite2' (fun c3 => ?_) (fun c3 => ?_)
          · refine ⟨⟨#[c0]⟩, "z", rfl, rfl, _, rfl, ?_⟩
            rw [le_z]
            have c3 := of_decide_eq_true c3
            refine ite2' (fun c4 => ?_) (fun c4 => ?_)
            · refine no ?_
              simp only [Bool.not_eq_true', decide_eq_false_iff_not] at c4
              unfold aZ
              rw [decide_eq_false_iff_not]
              omega
            · have c4 : c0 ≤ 122 := by simpa using c4
              have ea : aZ c0 = true := by
                unfold aZ
                rw [decide_eq_true_eq]
                omega
              rw [ea, Bool.true_and] at hQ
              refine ⟨.str z, rfl, z, rfl, fun D hD => lc_ftS (q := fun c => !goodC c) sz hD (by show 1 < 2; decide) (fun c mc H3 s3 R hR => ?_) (fun H3 s3 h3 => ?_)⟩
              · have y := hR H3 (Same.refl _)
                refine ⟨.str ⟨#[c]⟩, rfl, "a", ⟨#[c]⟩, rfl, rfl, _, rfl, ?_⟩
                rw [le_one]
                refine ite2' (fun a1 => ⟨⟨#[c]⟩, "z", rfl, rfl, _, rfl, ?_⟩) (fun a1 => ⟨_, rfl, iteF ?_⟩)
                · rw [le_z]
                  have a1 := of_decide_eq_true a1
                  refine ite2' (fun a2 => ?_) (fun a2 => ?_)
                  · have a2 := of_decide_eq_true a2
                    have g : goodC c = true := by
                      unfold goodC aZ
                      rw [decide_eq_true (show 97 ≤ c ∧ c ≤ 122 from ⟨a1, a2⟩)]
                      rfl
                    rw [g] at y
                    exact y
                  · have a2 := of_decide_eq_false a2
                    have g : goodC c = decide (48 ≤ c ∧ c ≤ 57) := by
                      unfold goodC aZ
                      rw [decide_eq_false (show ¬ (97 ≤ c ∧ c ≤ 122) from fun h => a2 h.2)]
                      rfl
                    rw [g] at y
                    refine ⟨.str ⟨#[c]⟩, rfl, "0", ⟨#[c]⟩, rfl, rfl, _, rfl, ?_⟩
                    rw [le_0]
                    refine ite2' (fun b1 => ⟨⟨#[c]⟩, "9", rfl, rfl, _, rfl, ?_⟩) (fun b1 => ⟨_, rfl, ?_⟩)
                    · rw [le_9]
                      have b1 := of_decide_eq_true b1
                      have e : decide (48 ≤ c ∧ c ≤ 57) = decide (c ≤ 57) := decide_eq_decide.mpr ⟨fun h => h.2, fun h => ⟨b1, h⟩⟩
                      rw [e] at y
                      exact y
                    · have b1 := of_decide_eq_false b1
                      rw [decide_eq_false (show ¬ (48 ≤ c ∧ c ≤ 57) from fun h => b1 h.1)] at y
                      exact y
                · have a1 := of_decide_eq_false a1
                  have g : goodC c = decide (48 ≤ c ∧ c ≤ 57) := by
                    unfold goodC aZ
                    rw [decide_eq_false (show ¬ (97 ≤ c ∧ c ≤ 122) from fun h => a1 h.1)]
                    rfl
                  rw [g] at y
                  refine ⟨.str ⟨#[c]⟩, rfl, "0", ⟨#[c]⟩, rfl, rfl, _, rfl, ?_⟩
                  rw [le_0]
                  refine ite2' (fun b1 => ⟨⟨#[c]⟩, "9", rfl, rfl, _, rfl, ?_⟩) (fun b1 => ⟨_, rfl, ?_⟩)
                  · rw [le_9]
                    have b1 := of_decide_eq_true b1
                    have e : decide (48 ≤ c ∧ c ≤ 57) = decide (c ≤ 57) := decide_eq_decide.mpr ⟨fun h => h.2, fun h => ⟨b1, h⟩⟩
                    rw [e] at y
                    exact y
                  · have b1 := of_decide_eq_false b1
                    rw [decide_eq_false (show ¬ (48 ≤ c ∧ c ≤ 57) from fun h => b1 h.1)] at y
                    exact y
              · refine ⟨few_line (by simp), fun b hb => ⟨D, b, _, rfl, rfl, .inl (.inl (same_new hb _ _ h3)), .inl (.inl upd_same), ?_⟩⟩
                have e : decide ((z.cps.toList.filter fun c => !goodC c).map (fun c => V.str ⟨#[c]⟩) = []) = z.cps.toList.all goodC := by
                  rw [Bool.eq_iff_iff, decide_eq_true_eq, List.map_eq_nil_iff, List.filter_eq_nil_iff, List.all_eq_true]
                  simp
                rw [e]
                exact hQ _ (s3.trans (same_new hb))
          · refine ⟨_, rfl, no ?_⟩
            have c3 := of_decide_eq_false c3
            unfold aZ
            rw [decide_eq_false_iff_not]
            omega
      · refine ⟨_, rfl, iteT (iteT (bad fun h => ?_))⟩
        rw [lz] at c1
        simp only [decide_eq_false_iff_not] at c1
        omega
end
end K01

namespace Ly
open PySem PySem.Spec PyProof.Rows L2
/-! displays of data in which names stand: C tells what the names hold -/
def tDatC (C : L2.St → Prop) (K : PySem.W.Frag) (d : PyData) : TE := fun σ H Q => C σ ∧ tDat K d σ H Q
def tDatsC (C : L2.St → Prop) (K : PySem.W.Frag) (ds : List PyData) : TA := fun σ H Q => C σ ∧ tDats K ds σ H Q
section
variable {X : Cx} {K : PySem.W.Frag} {pos : Pos} {C : L2.St → Prop}
theorem pdc_of {e : Expr} {d : PyData} (h : PE X e (tDat K d)) : PE X e (tDatC C K d) := pe_weak h fun _ _ _ q => q.2
theorem pdc_nil : PA X [] (tDatsC C K []) := pa_weak pd_nil fun _ _ _ q => q.2
theorem pdc_cons {e : Expr} {es : List Expr} {d : PyData} {ds : List PyData} (he : PE X e (tDatC C K d)) (hr : PA X es (tDatsC C K ds))
    (hs : starEach (e :: es) X.env = (false, eval e X.env) :: starEach es X.env := by rfl) : PA X (e :: es) (tDatsC C K (d :: ds)) :=
  pa_weak (pa_cons he hr hs) fun _ H _ ⟨c, S, h1, h2⟩ => ⟨c, S, h1, fun v H1 s1 d1 => ⟨c, S, fun a z => some_of (h1 a z) s1, fun vs H2 s2 d2 => h2 _ H2 (s1.trans s2) (.cons (d1.mono (hid_mono s2)) d2)⟩⟩
theorem pdc_tup {es : List Expr} {x1} {ds : List PyData} (h : PA X es (tDatsC C K ds)) (hl : ds.length ≤ 1000 := by simp) : PE X (.Tuple es x1 pos) (tDatC C K (.tuple ds)) :=
  pe_weak (pe_tup h) fun _ H _ ⟨c, S, q1, q2⟩ => ⟨c, S, q1, fun vs H1 s1 d1 => ⟨few_line (by have := d1.length; omega), fun p hp => q2 _ _ (s1.trans (same_new hp))
    (.tup (.inl (.inl (by rw [hid_at (out_of (fun a z => some_of (q1 a z) s1) hp), upd_same]))) (d1.mono (hid_mono (same_new hp))))⟩⟩
theorem pdc_lst {es : List Expr} {ds : List PyData} (h : PA X es (tDatsC C K ds)) (hl : ds.length ≤ 1000 := by simp) : PE X (.List es pos) (tDatC C K (.list ds)) :=
  pe_weak (pe_lst h) fun _ H _ ⟨c, S, q1, q2⟩ => ⟨c, S, q1, fun vs H1 s1 d1 => ⟨few_line (by have := d1.length; omega), fun p hp => q2 _ _ (s1.trans (same_new hp))
    (.lst (.inl (.inl (by rw [hid_at (out_of (fun a z => some_of (q1 a z) s1) hp), upd_same]))) (d1.mono (hid_mono (same_new hp))))⟩⟩
theorem pdc_var (i : Nat) {x : Str} {z : Str} (hC : ∀ σ, C σ → σ[i]? = some (some (.str z))) (hN : X.N[i]? = some x := by rfl) (hv : Vis X.env.scope x := by first | exact Or.inl rfl | exact Or.inr (Or.inl rfl) | exact Or.inr (Or.inr rfl)) (hd : (x == ("__debug__" : Str)) = false := by decide)
    (hcd : (x == ("__classdict__" : Str)) = false := by decide) : PE X (.Name x pos) (tDatC C K (.str z)) :=
  pe_weak (pe_var hN hv hd hcd) fun σ H _ ⟨c, _, _, q2⟩ => ⟨.str z, hC σ c, q2 _ H (Same.refl H) (.str z)⟩
theorem pdc_add {e1 e2 : Expr} {a b : Str} (h1 : PE X e1 (tDatC C K (.str a))) (h2 : PE X e2 (tDatC C K (.str b))) (hl : a.length + b.length ≤ 100000) : PE X (.BinOp e1 .Add e2 pos) (tDatC C K (.str (a ++ b))) :=
  pe_weak (pe_op op_add_str h1 h2) fun _ H _ ⟨c, S, q1, q2⟩ => ⟨c, S, q1, fun v H1 s1 d1 => ⟨c, S, fun a z => some_of (q1 a z) s1, fun u H2 s2 d2 => ⟨a, b, d1.str_of, d2.str_of, few_line hl, q2 _ H2 (s1.trans s2) (.str _)⟩⟩⟩
theorem pdc_from {e1 : Expr} {a : Str} {j} {p2 p3 : Pos} (h1 : PE X e1 (tDatC C K (.str a))) (hl : a.length ≤ 100000) : PE X (.Subscript e1 (.Slice (some (.Constant (.int 1) j p2)) none none p3) pos) (tDatC C K (.str (cutS a (some 1) none))) :=
  pe_weak (pe_slice sl_str h1 (po_some pe_int) po_none) fun _ H _ ⟨c, S, q1, q2⟩ => ⟨c, S, q1, fun v H1 s1 d1 => ⟨1, rfl, a, d1.str_of, few_line hl, q2 _ H1 s1 (.str _)⟩⟩
theorem pdc_upper {e1 : Expr} {a : Str} {apos : Pos} (h1 : PE X e1 (tDatC C K (.str a))) (hl : a.length ≤ 100000) (hbase : attributeBase e1 "upper" X.env (eval e1 X.env) = eval e1 X.env := by rfl) (hline : (apos.endLine == pos.line) = true := by rfl) :
    PE X (.Call (.Attribute e1 "upper" apos) [] [] pos) (tDatC C K (.str (Txt.upper a))) :=
  pe_weak (pe_upper h1 hbase hline) fun _ H _ ⟨c, S, q1, q2⟩ => ⟨c, S, q1, fun v H1 s1 d1 => ⟨⟨a, d1.str_of⟩, a, d1.str_of, rfl, by omega, q2 _ H1 s1 (.str _)⟩⟩
theorem pdc_done {e1 e : Expr} {a : Str} {d : PyData} (h1 : PE X e1 (tDatC C K (.str a))) (h : PE X e (tDatC C K d)) : PE X (.Dict [some e1] [e] pos) (tDatC C K (.dict [(.str a, d)])) := by
  refine pe_weak (pe_disp (pps_cons h1 h pps_nil) rfl rfl (by simp) (by simp)) fun σ H Q ⟨c, S, q1, q2⟩ p hp => ?_
  have sp : S p = false := out_of q1 hp
  refine ⟨c, fun a => S a || decide (a = p), fun a z => ?_, fun v0 H0 s0 d0 => ⟨c, fun a => S a || decide (a = p), fun a z => ?_, fun v H1 s1 d1 => ⟨s1 _ _ (s0 _ _ upd_same), [(.inr a, v)], ?_, by simp, ?_⟩⟩⟩
  · by_cases e : a = p
    · subst e
      rw [upd_same]
      exact fun z => nomatch z
    · rw [upd_ne e]
      exact q1 a (by simpa [e] using z)
  · refine some_of ?_ s0
    by_cases e : a = p
    · subst e
      rw [upd_same]
      exact fun z => nomatch z
    · rw [upd_ne e]
      exact q1 a (by simpa [e] using z)
  · rw [d0.str_of]
    rfl
  have k : Same H (upd H1 p (.dK [(.inr a, v)])) := fun b o e => by
    rw [upd_ne (ne_of_none e hp)]
    exact s1 _ _ (s0 _ _ (by rw [upd_ne (ne_of_none e hp)]; exact e))
  refine q2 _ _ k (.dic (kvs := [(.inr a, v)]) (ds := [d]) (by rw [hid_at sp, upd_same]; rfl) (.cons (d1.mono (hid_same (fun a z => ?_) fun a o z e => ?_)) .nil))
  · simp only [Bool.or_eq_false_iff] at z
    exact z.1
  · simp only [Bool.or_eq_false_iff, decide_eq_false_iff_not] at z
    show upd H1 p _ a = some o
    rw [upd_ne z.2]
    exact e
end
section
variable {X : Cx}
theorem pss_ex {α : Sort _} {sts : List Stmt} {t : α → Ends → L2.St → Hp → Prop} (h : ∀ a, PSs X sts (t a)) : PSs X sts (fun D σ H => ∃ a, t a D σ H) := ⟨fun pins s σ H D I ⟨a, q⟩ => (h a).run pins s σ H D I q⟩
theorem pw_never {e : Expr} : PW X e (fun _ _ _ => False) := ⟨fun _ _ _ _ _ _ _ h => h.elim⟩
theorem pt_never {e : Expr} : PT X e (fun _ _ _ => False) := ⟨fun _ _ _ _ _ _ h => h.elim⟩
end
end Ly

/-! t[::-1] of a tuple -/
namespace HT
open PySem PyProof.Rows
open PySem.SeqAt
open PySem.AutoSeq1 (wpAny_loadPart')
open PySem.MeetsSeq PySem.MeetsSeq2 PySem.MeetsSeq3
variable {prog : Program} {w : World} {A : Around} {E : Value → Shared → Prop} {s : Shared}
theorem adjust_rev (n : Nat) : Builtin.Slice.sliceAdjust none none (-1) (n : Int) = ((n : Int) - 1, -1) := by
  have h1 : ((-1 : Int) < 0) := by decide
  unfold Builtin.Slice.sliceAdjust
  simp only [h1, if_true]
theorem places_rev (n : Nat) : Builtin.Slice.slicePlaces ((n : Int) - 1) (-1) (-1) = n := by
  unfold Builtin.Slice.slicePlaces
  have h1 : ¬ ((-1 : Int) > 0) := by decide
  simp only [h1, if_false]
  rw [show (- -1 : Int) = 1 by decide, Int.ediv_one]
  split <;> omega
theorem sliceApplied_rev {sl : Addr} {t : Tok} {n : Nat} {Q : Int × Int × Nat → Shared → Prop} (hs : s.heap.IsSliceOf sl .none .none (.int (-1) t))
    (h : Q ((n : Int) - 1, -1, n) s) : wpAny (model prog w) A (Builtin.Slice.sliceApplied (.ref sl) (pure (n : Int))) Q E s := by
  obtain ⟨os, hos, hcs, hds⟩ := id hs
  unfold Builtin.Slice.sliceApplied Builtin.Slice.sliceFields
  refine wpAny_bind (wpAny_bind (wpAny_field hos hds (x := .none) rfl (wpAny_bind (wpAny_field hos hds (x := .none) rfl (wpAny_bind (wpAny_field hos hds (x := .int (-1) t) rfl (wpAny_pure ?_)))))))
  refine wpAny_bind (slicePart_int ?_)
  show wpAny _ _ (if ((-1 : Int) == 0) = true then _ else _) _ _ s
  rw [if_neg (by decide)]
  refine wpAny_bind (slicePart_none (wpAny_bind (slicePart_none (wpAny_bind (wpAny_pure ?_)))))
  show wpAny _ _ (match Builtin.Slice.sliceAdjust none none (-1) (n : Int) with | (lo, hi) => pure (lo, (-1 : Int), Builtin.Slice.slicePlaces lo hi (-1))) _ _ s
  rw [adjust_rev n]
  show wpAny _ _ (pure ((n : Int) - 1, (-1 : Int), Builtin.Slice.slicePlaces ((n : Int) - 1) (-1) (-1))) _ _ s
  rw [places_rev]
  exact wpAny_pure h
theorem fm_congr {α β : Type} {f g : α → Option β} : ∀ {l : List α}, (∀ x ∈ l, f x = g x) → l.filterMap f = l.filterMap g
  | [], _ => rfl
  | x :: l, h => by
    rw [List.filterMap_cons, List.filterMap_cons, h x List.mem_cons_self, fm_congr fun y m => h y (List.mem_cons_of_mem _ m)]
theorem pick_rev (xs : Array Value) : ((List.range xs.size).filterMap fun (m : Nat) => xs[((xs.size : Int) - 1 + (m : Int) * (-1)).toNat]?).toArray = xs.toList.reverse.toArray := by
  have e : (List.range xs.size).filterMap (fun (m : Nat) => xs[((xs.size : Int) - 1 + (m : Int) * (-1)).toNat]?) = ((List.range xs.size).map (fun k => xs.size - 1 - k)).filterMap (xs[·]?) := by
    rw [List.filterMap_map]
    refine fm_congr fun m hm => ?_
    have := List.mem_range.mp hm
    show xs[((xs.size : Int) - 1 + (m : Int) * (-1)).toNat]? = xs[xs.size - 1 - m]?
    congr 1
    omega
  rw [e, PySem.W.krv_range, List.filterMap_reverse, PySem.W.krv_all]
theorem getItem_tuple_rev {t sl : Addr} {items : Array Value} {k : Tok} {Q : Value → Shared → Prop} (ht : IsTup s.heap t items) (hs : s.heap.IsSliceOf sl .none .none (.int (-1) k))
    (h : Q (.ref s.heap.objs.size) { s with heap := s.heap.push { cls := .type "tuple", data := .seq items.toList.reverse.toArray } })
    (hsz : items.size ≤ sizeLine) : wpAny (model prog w) A (getItem (.ref t) (.ref sl)) Q E s := by
  have htake : sizeOk (.seq items.toList.reverse.toArray) := by
    show items.toList.reverse.toArray.size ≤ sizeLine
    rw [List.size_toArray, List.length_reverse, Array.length_toList]
    exact hsz
  obtain ⟨os, hos, hcs, hds⟩ := id hs
  have hTs : s.TypeIs (.ref sl) "slice" := ⟨os, hos, hcs⟩
  unfold getItem
  try with_reducible refine wpAny_holding ?_
  first | refine wpAny_bind (wpAny_pure ?_) | skip
  refine wpAny_bind (wpAny_sequenceKey ht.typeIs (by decide) ?_)
  refine wpAny_bind (wpAny_callSpecial?_slot (name := Str.ofString "__getitem__") ht.typeIs PyProof.Rows.slot_tuple_getitem
    (wpAny_call_entry PyProof.Rows.slot_tuple_getitem ht.typeIs entry_tuple_getitem ?_ (args_tuple_getitem _ _)))
  show wpAny _ _ (Builtin.Tuple.tupleItemsOf (.ref t) >>= _) _ _ s
  refine wpAny_bind (tupleItemsOf_ ht ?_)
  refine wpAny_bind (wpAny_typeOf hTs ?_)
  rw [if_pos (by decide)]
  refine wpAny_bind (sliceApplied_rev hs ?_)
  have hno : ¬ ((((items.size : Int) - 1) == 0 && (-1 : Int) == 1 && items.size == items.size) = true) := by
    intro q
    rw [Bool.and_eq_true, Bool.and_eq_true] at q
    exact absurd q.1.2 (by decide)
  show wpAny _ _ (if (((items.size : Int) - 1) == 0 && (-1 : Int) == 1 && items.size == items.size) = true then _ else _) _ _ s
  rw [if_neg hno, pick_rev]
  first
    | exact wpAny_bind (m := Builtin.Tuple.tupleExact _) (wpAny_newObj_type (wpAny_pure ⟨_, rfl, wpAny_pure h⟩) htake)
    | exact wpAny_bind (m := Builtin.Tuple.tupleExact _) (wpAny_newObj_type (wpAny_bind (wpAny_pure (wpAny_pure ⟨_, rfl, wpAny_pure h⟩))) htake)
    | exact wpAny_bind (wpAny_bind (m := Builtin.Tuple.tupleExact _) (wpAny_newObj_type (wpAny_pure (wpAny_pure ⟨_, rfl, wpAny_pure h⟩)) htake))
    | exact wpAny_bind (wpAny_bind (m := Builtin.Tuple.tupleExact _) (wpAny_newObj_type (wpAny_pure ⟨_, rfl, wpAny_pure h⟩) htake))
end HT
namespace Ly
open PySem PySem.Spec PyProof.Rows L2
section
variable {X : Cx}
def tRevT (K : PySem.W.Frag) (te : TE) : TE := fun σ H Q => te σ H fun x H1 => ∃ a xs, x = .ref a ∧ SqT K H1 a xs ∧ ∀ p, H1 p = none → Q (.ref p) (upd H1 p (.tup xs.reverse))
theorem pe_revT {e : Expr} {te : TE} {k : Nat} {p1 p2 p3 pos : Pos} (he : PE X e te) : PE X (.Subscript e (.Slice none none (some (.UnaryOp .USub (.Constant (.int 1) k p1) p2)) p3) pos) (tRevT X.K te) := by
  refine ⟨fun pins s σ H Q I h => ?_⟩
  refine Subscript_ (thn (he.run pins s σ H _ I h) fun v s1 ⟨x, H1, I1, r1, q1⟩ => ?_)
  obtain ⟨a, xs, ex, hx, q⟩ := q1
  subst ex
  cases r1
  have hst : PO X (some (.UnaryOp .USub (.Constant (.int 1) k p1) p2)) (tPart (tUn (rU fun i => .int (-i)) (tC (.int 1)))) := po_some (pe_un un_neg pe_int)
  refine wpAny_Slice (thn (po_none.run pins s1 σ H1 (fun o H2 => o = none ∧ H2 = H1) I1 ⟨rfl, rfl⟩) fun vl s2 ⟨l, H2, I2, pl, el, e2⟩ => ?_)
  subst el e2
  refine thn (po_none.run pins s2 σ H2 (fun o H3 => o = none ∧ H3 = H2) I2 ⟨rfl, rfl⟩) fun vu s3 ⟨u, H3, I3, pu, eu, e3⟩ => ?_
  subst eu e3
  refine thn (hst.run pins s3 σ H3 (fun o H4 => o = some (-1) ∧ H4 = H3) I3 ⟨1, rfl, -1, rfl, rfl, rfl⟩) fun vs s4 ⟨o, H4, I4, ps, eo, e4⟩ => ?_
  subst eo e4
  cases pl
  cases pu
  cases ps with
  | int i t =>
  have I5 : Inv X pins σ H4 { s4 with heap := s4.heap.push { cls := .type "slice", data := .fields #[.none, .none, .int (-1) t] } } := I4.kept (t' := s4.toks) fun b ob q => Heap.get?_push_of_some _ q
  obtain ⟨its, r, ht, hz⟩ := I5.tuple hx
  have hlen := r.length
  show wpAny (model X.prog X.w) X.A (subscriptTail e (.Slice none none (some (.UnaryOp .USub (.Constant (.int 1) k p1) p2)) p3) (.ref a) (.ref s4.heap.objs.size)) (EP X pins σ Q) X.xe { s4 with heap := s4.heap.push { cls := .type "slice", data := .fields #[.none, .none, .int (-1) t] } }
  refine tail_any (ops := [.ref a, .ref s4.heap.objs.size]) ht.typeIs (PyProof.Rows.slot_tuple_getitem.lookup) ?_ (by with_unfolding_all rfl)
  refine HT.getItem_tuple_rev ht (Heap.IsSliceOf.new _ .none .none (.int (-1) t)) ?_ (by rw [List.size_toArray]; omega)
  refine ⟨.ref _, _, I5.laid (t' := s4.toks) (o := .tup xs.reverse) (fun b ob q => Heap.get?_push_of_some _ q) (Nat.le_refl _) ?_, rfl, q _ (I5.hok.fresh (Nat.le_refl _))⟩
  exact ⟨by rw [List.length_reverse]; exact hz, _, r.reverse, IsTup.new _ _⟩
end
end Ly

namespace Ly
open PySem PySem.Spec PyProof.Rows L2
/-! list of a text, a text times an int, small texts -/
def signsV (x : Str) : List V := x.cps.toList.map fun c => .str ⟨#[c]⟩
theorem call_listS {X : Cx} (hc : X.calm = true) : CallR X (.type "list") (fun xs H Q => ∃ x, xs = [.str x] ∧ x.cps.size ≤ sizeLine ∧ ∀ l, H l = none → Q (.ref l) (upd H l (.lst (signsV x)))) := by
  intro pins s σ H xs us Q I r h
  obtain ⟨x, rfl, hz, q⟩ := h
  obtain ⟨u, rfl, t, rfl⟩ := vals1 r
  refine call_list_str (I.ok.hd hc) x t (fun h' tk acc' c' kp e it => ?_) hz
  have rv : Vals (signsV x) acc'.toList := by
    refine vals_of_idx _ _ ?_ fun j u hj => ?_
    · rw [signsV, List.length_map, Array.length_toList, Array.length_toList]
      exact it.1
    · rw [Array.getElem?_toList] at hj
      obtain ⟨c, t2, hc2, rfl⟩ := it.2 j u hj
      exact ⟨.str ⟨#[c]⟩, by rw [signsV, List.getElem?_map, at_cps hc2]; rfl, t2, rfl⟩
  refine ⟨.ref s.heap.objs.size, _, I.laid (t' := tk) kp (Nat.le_refl _) (show ObjOk X.prog X.w _ h' _ (.lst (signsV x)) from ⟨by rw [signsV, List.length_map, Array.length_toList]; exact hz, acc'.toList, c', rv, by simpa using e⟩), rfl, q _ (I.hok.fresh (Nat.le_refl _))⟩
def rep12 (x : Str) : Str := ⟨(List.replicate 12 x.cps).foldl (· ++ ·) #[]⟩
theorem op_mul12 {X : Cx} : OpR X (binaryOp .Mult) (fun x y H Q => ∃ z : Str, x = .str z ∧ y = .int 12 ∧ z.length = 1 ∧ Q (.str (rep12 z)) H) := by
  intro pins s σ H x y v u Q I rx ry h
  obtain ⟨z, rfl, rfl, hz, q⟩ := h
  obtain ⟨t, rfl⟩ := rx
  obtain ⟨t', rfl⟩ := ry
  refine PySem.P.mul_str (by decide) (fun _ _ => ?_) (fun _ _ => ?_) ?_
  · rw [hz]
    decide
  · rw [hz]
    decide +kernel
  · rw [if_neg (by decide), hz, if_neg (by decide)]
    obtain ⟨⟨l⟩⟩ := z
    match l, hz with
    | [c], _ =>
    exact ⟨by show (12 : Nat) ≤ sizeLine; exact few_line (by decide), ⟨.str (rep12 ⟨⟨[c]⟩⟩), H, I.tok _, ⟨_, rfl⟩, q⟩⟩
/-- a small text -/
def GT (n : Nat) (s : Str) : Prop := s.cps.toList.length ≤ n ∧ ∀ c ∈ s.cps.toList, c < 16 ^ 8
theorem GT.show {n : Nat} {s : Str} (h : GT n s) (hn : n ≤ 100) : (PyData.str s).showable = true ∧ (PyData.str s).shown.length ≤ 1100 ∧ (PyData.str s).depth = 0 ∧ s.cps.size ≤ 1000 := by
  refine ⟨by simp only [PyData.showable], ?_, by simp only [PyData.depth], ?_⟩
  · simp only [PyData.shown]
    have := PySem.StrLaws.reprText_len s h.2
    have e : s.length = s.cps.toList.length := by simp [Str.length]
    have := h.1
    omega
  · rw [← Array.length_toList]
    have := h.1
    omega
theorem GT.mono {n m : Nat} {s : Str} (h : GT n s) (hn : n ≤ m) : GT m s := ⟨Nat.le_trans h.1 hn, h.2⟩
theorem GT.add {n m : Nat} {a b : Str} (h : GT n a) (k : GT m b) : GT (n + m) (a ++ b) := by
  have e : (a ++ b).cps.toList = a.cps.toList ++ b.cps.toList := by
    show (a.cps ++ b.cps).toList = _
    simp
  refine ⟨?_, fun c hc => ?_⟩
  · rw [e, List.length_append]
    have := h.1
    have := k.1
    omega
  · rw [e] at hc
    exact (List.mem_append.mp hc).elim (h.2 c) (k.2 c)
theorem GT.cut {n : Nat} {a : Str} (h : GT n a) (lo hi : Option Int) : GT n (cutS a lo hi) := by
  refine ⟨?_, fun c hc => h.2 c (List.mem_of_mem_drop (List.mem_of_mem_take hc))⟩
  show (List.take _ (List.drop _ _)).length ≤ n
  rw [List.length_take, List.length_drop]
  have := h.1
  omega
theorem gt_rep {z : Str} (h : GT 1 z) (hz : z.length = 1) : GT 12 (rep12 z) := by
  obtain ⟨⟨l⟩⟩ := z
  match l, hz, h with
  | [c], _, h =>
  have hc := h.2 c (by simp)
  have e : (rep12 ⟨⟨[c]⟩⟩).cps.toList = [c, c, c, c, c, c, c, c, c, c, c, c] := rfl
  refine ⟨by rw [e]; exact Nat.le_refl 12, fun d hd => ?_⟩
  rw [e] at hd
  simp only [List.mem_cons, List.not_mem_nil, or_false, or_self] at hd
  rw [hd]
  exact hc
def gtB (n : Nat) (s : Str) : Bool := decide (s.cps.toList.length ≤ n) && s.cps.toList.all fun c => decide (c < 16 ^ 8)
theorem gt_by {n : Nat} {s : Str} (h : gtB n s = true) : GT n s := by
  unfold gtB at h
  simp only [Bool.and_eq_true, decide_eq_true_eq, List.all_eq_true] at h
  exact h
theorem GT.join {n k : Nat} : ∀ {ys : List Str}, (∀ y ∈ ys, GT n y) → ys.length ≤ k → GT (n * k) (Txt.join ⟨#[]⟩ ys)
  | ys, h, l => by
    show GT _ (Builtin.Str.glued ⟨#[]⟩ ys)
    rw [StrLaws.glued_eq_join]
    have go : ∀ ys : List Str, (∀ y ∈ ys, GT n y) → GT (n * ys.length) (Str.join ⟨#[]⟩ ys) := by
      intro ys
      induction ys with
      | nil => exact fun _ => ⟨Nat.zero_le _, fun c hc => (by cases hc)⟩
      | cons x r ih =>
        intro h
        have hx := h x List.mem_cons_self
        have hr := ih fun y m => h y (List.mem_cons_of_mem _ m)
        cases r with
        | nil => exact hx.mono (by simp)
        | cons y r =>
          have e : Str.join ⟨#[]⟩ (x :: y :: r) = x ++ (⟨#[]⟩ : Str) ++ Str.join ⟨#[]⟩ (y :: r) := rfl
          rw [e]
          have z : GT 0 (⟨#[]⟩ : Str) := ⟨Nat.le_refl _, fun c hc => (by cases hc)⟩
          refine ((hx.add z).add hr).mono ?_
          rw [List.length_cons (a := x), Nat.mul_succ]
          omega
    exact (go ys h).mono (Nat.mul_le_mul_left n l)
end Ly

namespace K01
open PySem PySem.Spec PyProof.Rows L2 Ly
section
variable {P : Program} {w : World} {K : PySem.W.Frag} {mg : Str → Option Value} {base : Heap} {f fT : Addr} {fd fdT : FuncData}
/-- the values that are drawn -/
def odd1 : List PyData := [.none, .bool true, .bool false, .int 0, .int 1, .int (-1), .int (10 ^ (39 : Int).toNat), .str "", .str "a", .str "m", .str "by", .str "A", .str "2a", .str "a b", .str "sea", .tuple [], .list [], .dict [], .tuple [.str "a"]]
def odd2 : List PyData := [.list [.str "a"], .tuple [.str "a", .str "b"], .tuple [.tuple [.str "a"]], .dict [(.str "a", .int 1)], .tuple [.tuple [], .tuple []], .tuple [.tuple [], .tuple [], .tuple [], .tuple [], .tuple []], .tuple [.int 0], .dict [(.str "c0", .tuple [.str "a"])]]
theorem odd_all : ∀ d ∈ odd1 ++ odd2, d.showable = true ∧ d.shown.length ≤ 100 ∧ d.depth ≤ 3 := by decide +kernel
/-- data that do not lean on what S hides, the bag among it -/
abbrev DS (K : PySem.W.Frag) (S : Addr → Bool) (H : Hp) (v : V) (d : PyData) : Prop := Dq K (hid S H) v d
abbrev DSA (K : PySem.W.Frag) (S : Addr → Bool) (H : Hp) (vs : List V) (ds : List PyData) : Prop := DqA K (hid S H) vs ds
theorem hid_dr {S : Addr → Bool} {b : Addr} {H H' : Hp} (hb : S b = true) (h : Kp b H H') : Same (hid S H) (hid S H') := hid_same (fun _ z => z) fun a o z e => h a o (fun q => by rw [q, hb] at z; cases z) e
/-- a value of any kind -/
def Odd (K : PySem.W.Frag) (S : Addr → Bool) (H : Hp) (v : V) : Prop := ∃ d : PyData, d ∈ odd1 ++ odd2 ∧ DS K S H v d
def spOdd (K : PySem.W.Frag) : Sp := fun vs H Q _ => ∃ (b : Addr) (S : Addr → Bool), vs = [.ref b] ∧ IsBag H b ∧ S b = true ∧ (∀ a, S a = true → H a ≠ none) ∧ ∀ v H', Odd K S H' v → Dr b H H' → Q v H'
theorem scOdd : FnScope ["bag", "some"] ["bag"] (defScope (topS i_law_odd)) := ⟨rfl, rfl, rfl, by decide +kernel, rfl, by decide +kernel, by decide +kernel⟩
theorem ok_odd {fS : Addr} {fdS : FuncData} (F : FnP K "_law_odd" i_law_odd f fd) (FS : FnP K "_law_some" i_law_some fS fdS) (gS : mg "_law_some" = some (.ref fS)) (FT : FnP K "_law_take" i_law_take fT fdT) (gT : mg "_law_take" = some (.ref fT)) (mi : mg "int" = none) (ml : mg "len" = none) :
    FnOk P w K mg base CX0 3 f fd ["bag"] (spOdd K) := by
  have GS : FnOk P w K mg base CX0 2 fS fdS ["bag", "things"] (spSome K) := ok_some FS FT gT mi ml
  have bS : Binds K fdS ["bag", "things"] [] := FS.bindsN fun _ _ _ _ _ _ us hl => match us, hl with | [_, _], _ => rfl
  refine F.ok scOdd (fun vs H Q E h => ?_) (fun cd A outer s H vs Q E hr h => ?_)
  · obtain ⟨b, S, rfl, _⟩ := h
    rfl
  · obtain ⟨b, S, rfl, hB, hSb, hb1, hQ⟩ := h
    refine ⟨_, PSs.nox (pss_cons (ps_set (i := 1) scOdd.nd rfl (.inl rfl) (pe_lst (t := tDats K odd1) (by
        repeat' first | exact pd_nil | exact pd_non | exact pd_bl | exact pd_int | exact pd_neg | exact pd_pow | exact pd_str | exact pd_dnil | refine pd_cons ?_ ?_ | refine pd_tup ?_ | refine pd_lst ?_)))
      (pss_cons (ps_expr (pe_bm PySem.F.plainAttrs_list PySem.F.slot_list_extend PySem.F.type_list_extend mt_extend (pv 1) (pa_cons (pe_lst (t := tDats K odd2) (by
        repeat' first | exact pd_nil | exact pd_int | exact pd_str | refine pd_done ?_ | refine pd_cons ?_ ?_ | refine pd_tup ?_ | refine pd_lst ?_)) pa_nil)))
      (pss_one (ps_ret (pe_call GS hr (by rfl) gS FS.kp bS .nil pass0 (pa_cons (pv 0) (pa_cons (pv 1) pa_nil))))))), ?_⟩
    obtain ⟨xs0, hb0⟩ := hB.top
    have nb : H b ≠ none := fun z => by
      rw [hb0] at z
      cases z
    refine ⟨S, hb1, fun vs H1 s1 d1 => ⟨few_line (by have := d1.length; simp only [odd1, List.length_cons, List.length_nil] at this; omega), fun p hp => ?_⟩⟩
    have nb1 := some_of nb s1
    have npb : p ≠ b := by
      rintro rfl
      exact nb1 hp
    refine ⟨.ref p, rfl, .inl ⟨rfl, _, .inl (.inl upd_same)⟩, fun a => S a || offB p a, fun a z => ?_, fun ws H2 s3 d2 => ⟨few_line (by have := d2.length; simp only [odd2, List.length_cons, List.length_nil] at this; omega), fun p2 hp2 => ?_⟩⟩
    · rcases (Bool.or_eq_true _ _).mp z with z | z
      · exact some_of (hb1 a z) (s1.trans (same_new hp))
      · have e : a = p := of_decide_eq_true z
        rw [e, upd_same]
        exact fun z => nomatch z
    have e1 : H2 p = some (.lst vs) := s3 _ _ upd_same
    have n2 : p ≠ p2 := ne_of_none e1 hp2
    have l1 := d1.length
    have l2 := d2.length
    simp only [odd1, odd2, List.length_cons, List.length_nil] at l1 l2
    refine ⟨p, p2, vs, ws, rfl, rfl, by rw [upd_ne n2]; exact e1, upd_same, few_line (by omega), ?_⟩
    -- the list as it is then
    have e3 : ∀ a o, a ≠ p → H2 a = some o → (upd (upd H2 p2 (.lst ws)) p (.lst (vs ++ ws))) a = some o := fun a o n z => by
      rw [upd_ne n]
      exact same_new hp2 a o z
    have k1 : Same H1 (upd (upd H2 p2 (.lst ws)) p (.lst (vs ++ ws))) := fun a o z => e3 a o (ne_of_none z hp) (s3 _ _ (same_new (o := .lst vs) hp a o z))
    have k3 : Same H (upd (upd H2 p2 (.lst ws)) p (.lst (vs ++ ws))) := s1.trans k1
    have dA : DSA K S (upd (upd H2 p2 (.lst ws)) p (.lst (vs ++ ws))) (vs ++ ws) (odd1 ++ odd2) := by
      refine (d1.mono (hid_mono k1)).append (d2.mono (hid_same (fun a z => ?_) fun a o z e => ?_))
      · exact (Bool.or_eq_false_iff.mp z).1
      · exact e3 a o (offB_ne (Bool.or_eq_false_iff.mp z).2) e
    refine ⟨.ref b, rfl, .ref p, rfl, b, p, vs ++ ws, rfl, ?_, .inl ⟨.inl (.inl upd_same), npb⟩, by rw [List.length_append]; omega, by rw [List.length_append]; omega, fun v H4 hv k4 b4 => ?_⟩
    · exact hB.same k3
    · obtain ⟨d, hd, dq⟩ := dA.mem hv
      exact hQ v H4 ⟨d, hd, dq.mono (hid_dr hSb k4)⟩ ((Dr.same hB k3).trans ⟨k4, b4⟩)
end
end K01

namespace K01
open PySem PySem.Spec PyProof.Rows L2 Ly
section
variable {P : Program} {w : World} {K : PySem.W.Frag} {mg : Str → Option Value} {base : Heap} {f fT fS fO : Addr} {fd fdT fdS fdO : FuncData}
abbrev nmBn : List Str := ["bag", "thing", "deep", "way", "at", "key", "found", "some", "keys"]
theorem scBn : FnScope nmBn ["bag", "thing", "deep"] (defScope (topS i_law_bent)) := ⟨rfl, rfl, rfl, by decide +kernel, rfl, by decide +kernel, by decide +kernel⟩
def bentS1 (z : Str) : List PyData := [.str (z ++ "x"), .str (cutS z (some 1) none), .str (Txt.upper z), .str (z ++ " "), .str ("2" ++ z), .str (z ++ "\n"), .str "c0", .str "b"]
def bentS2 (z : Str) : List PyData := [.tuple [.str z], .list [.str z], .dict [(.str z, .int 1)], .none]
def shortD : PyData → Bool
  | .str s => decide (s.cps.size ≤ 1000)
  | _ => true
/-- data that may be shown, not long -/
structure OkX (B n : Nat) (d : PyData) : Prop where
  show_ : d.showable = true
  len : d.shown.length ≤ B
  deep : d.depth ≤ n
  short : shortD d = true
theorem bentS_ok : ∀ z ∈ poolA ++ poolB, z.length ≤ 100 ∧ ∀ d ∈ bentS1 z ++ bentS2 z, d.showable = true ∧ d.shown.length ≤ 100 ∧ d.depth ≤ 3 ∧ shortD d = true := by decide +kernel
theorem hid_live {S : Addr → Bool} {b : Addr} {H H' : Hp} (hb : S b = true) (d : Dr b H H') (h : ∀ a, S a = true → H a ≠ none) : ∀ a, S a = true → H' a ≠ none := fun a z n => h a z (d.free n)
/-- a text, bent -/
def spBn0 (K : PySem.W.Frag) : Sp := fun vs H Q _ => ∃ (b : Addr) (z : Str) (S : Addr → Bool), vs = [.ref b, .str z, .int 0] ∧ IsBag H b ∧ S b = true ∧ (∀ a, S a = true → H a ≠ none) ∧ z ∈ poolA ++ poolB ∧ ∀ v d H', DS K S H' v d → OkX 100 3 d → Dr b H H' → Q v H'
theorem ok_bn0 (F : FnP K "_law_bent" i_law_bent f fd) (FS : FnP K "_law_some" i_law_some fS fdS) (gS : mg "_law_some" = some (.ref fS)) (FT : FnP K "_law_take" i_law_take fT fdT) (gT : mg "_law_take" = some (.ref fT)) (mi : mg "int" = none) (ml : mg "len" = none)
    (mI : mg "isinstance" = none) (mt : mg "tuple" = none) (md : mg "dict" = none) (ms : mg "str" = none) : FnOk P w K mg base CX0 3 f fd ["bag", "thing", "deep"] (spBn0 K) := by
  have GS : FnOk P w K mg base CX0 2 fS fdS ["bag", "things"] (spSome K) := ok_some FS FT gT mi ml
  have bS : Binds K fdS ["bag", "things"] [] := FS.bindsN fun _ _ _ _ _ _ us hl => match us, hl with | [_, _], _ => rfl
  have GT : FnOk P w K mg base CX0 1 fT fdT ["bag", "many"] spTake := ok_take FT mi
  have bT : Binds K fdT ["bag", "many"] [] := FT.bindsN fun _ _ _ _ _ _ us hl => match us, hl with | [_, _], _ => rfl
  refine F.ok scBn (fun vs H Q E h => ?_) (fun cd A outer s H vs Q E hr h => ?_)
  · obtain ⟨b, z, S, rfl, _⟩ := h
    rfl
  · obtain ⟨b, z, S, rfl, hB, hSb, hS1, mz, hQ⟩ := h
    obtain ⟨lz, oks⟩ := bentS_ok z mz
    have r1 : Room 1 _ := hr.mono (by decide)
    have l1 : ("x" : Str).length = 1 := by decide +kernel
    have l2 : (" " : Str).length = 1 := by decide +kernel
    have l3 : ("2" : Str).length = 1 := by decide +kernel
    have l4 : ("\n" : Str).length = 1 := by decide +kernel
    refine ⟨_, PSs.nox (pss_cons (ps_set (i := 3) scBn.nd rfl (.inl rfl) (pe_call GT r1 (by rfl) gT FT.kp bT .nil pass0 (pa_cons (pv 0) (pa_cons pe_int pa_nil))))
      (pss_cons (ps_if (PW.pt (pw_and (pt_val (pe_callB call_isD (by rfl) mI (by decide +kernel) (pa_cons (pv 1) (pa_cons (pe_tyN (T := "tuple") (by rfl) mt (by decide +kernel)) pa_nil)))) pw_never)) Ly.pss_never pss_nil)
      (pss_cons (ps_if (PW.pt (pw_and (pt_val (pe_callB call_isD (by rfl) mI (by decide +kernel) (pa_cons (pv 1) (pa_cons (pe_tyN (T := "dict") (by rfl) md (by decide +kernel)) pa_nil)))) pw_never)) Ly.pss_never pss_nil)
      (pss_cons (ps_if (pt_val (pe_callB call_isD (by rfl) mI (by decide +kernel) (pa_cons (pv 1) (pa_cons (pe_tyN (T := "tuple") (by rfl) mt (by decide +kernel)) pa_nil)))) Ly.pss_never pss_nil)
      (pss_cons (ps_if (pt_val (pe_callB call_isD (by rfl) mI (by decide +kernel) (pa_cons (pv 1) (pa_cons (pe_tyN (T := "dict") (by rfl) md (by decide +kernel)) pa_nil)))) Ly.pss_never pss_nil)
      (pss_cons (ps_if (pt_val (pe_callB call_isD (by rfl) mI (by decide +kernel) (pa_cons (pv 1) (pa_cons (pe_tyN (T := "str") (by rfl) ms (by decide +kernel)) pa_nil))))
        (pss_cons (ps_set (i := 7) scBn.nd rfl (.inl rfl) (pe_lst (t := tDatsC (fun σ => σ[1]? = some (some (.str z))) K (bentS1 z)) (pdc_cons (pdc_add (pdc_var 1 (fun _ c => c)) (pdc_of pd_str) (by omega))
          (pdc_cons (pdc_from (pdc_var 1 (fun _ c => c)) (by omega)) (pdc_cons (pdc_upper (pdc_var 1 (fun _ c => c)) (by omega)) (pdc_cons (pdc_add (pdc_var 1 (fun _ c => c)) (pdc_of pd_str) (by omega))
          (pdc_cons (pdc_add (pdc_of pd_str) (pdc_var 1 (fun _ c => c)) (by omega)) (pdc_cons (pdc_add (pdc_var 1 (fun _ c => c)) (pdc_of pd_str) (by omega))
          (pdc_cons (pdc_of pd_str) (pdc_cons (pdc_of pd_str) pdc_nil))))))))))
        (pss_one (ps_ret (pe_call GS hr (by rfl) gS FS.kp bS .nil pass0 (pa_cons (pv 0) (pa_cons (pe_op op_cat (pv 7) (pe_lst (t := tDatsC (fun σ => σ[1]? = some (some (.str z))) K (bentS2 z))
          (pdc_cons (pdc_tup (pdc_cons (pdc_var 1 (fun _ c => c)) pdc_nil)) (pdc_cons (pdc_lst (pdc_cons (pdc_var 1 (fun _ c => c)) pdc_nil)) (pdc_cons (pdc_done (pdc_var 1 (fun _ c => c)) (pdc_of pd_int)) (pdc_cons (pdc_of pd_non) pdc_nil)))))) pa_nil)))))) pss_nil)
      (pss_one Ly.ps_never))))))), ?_⟩
    refine ⟨.ref b, rfl, b, 9, rfl, hB, by decide, by decide, fun way H1 v0 v1 k1 b1 => ?_⟩
    have d1 : Dr b H H1 := ⟨k1, b1⟩
    have hB1 := d1.bag
    refine ⟨.str z, rfl, .str z, "tuple", .str z, _, rfl, .str z, kit_tuple _, _, rfl, iteF (iteF ?_)⟩
    refine ⟨.str z, rfl, .str z, "dict", .str z, _, rfl, .str z, kit_dict _, _, rfl, iteF (iteF ?_)⟩
    refine ⟨.str z, rfl, .str z, "tuple", .str z, _, rfl, .str z, kit_tuple _, _, rfl, iteF ?_⟩
    refine ⟨.str z, rfl, .str z, "dict", .str z, _, rfl, .str z, kit_dict _, _, rfl, iteF ?_⟩
    refine ⟨.str z, rfl, .str z, "str", .str z, _, rfl, .str z, kit_str _, _, rfl, iteT ?_⟩
    obtain ⟨xs0, hb0⟩ := hB1.top
    have nb : H1 b ≠ none := fun z => by
      rw [hb0] at z
      cases z
    have hb1 : ∀ a, S a = true → H1 a ≠ none := fun a z => hid_live hSb d1 hS1 a z
    refine ⟨rfl, S, hb1, fun vs H2 s2 d2 => ⟨few_line (by have := d2.length; simp only [bentS1, List.length_cons, List.length_nil] at this; omega), fun p hp => ?_⟩⟩
    have nb1 := some_of nb s2
    have npb : p ≠ b := by
      rintro rfl
      exact nb1 hp
    refine ⟨.ref b, rfl, .ref p, rfl, rfl, fun a => S a || offB p a, fun a z => ?_, fun ws H3 s3 d3 => ⟨few_line (by have := d3.length; simp only [bentS2, List.length_cons, List.length_nil] at this; omega), fun p2 hp2 => ?_⟩⟩
    · rcases (Bool.or_eq_true _ _).mp z with z | z
      · exact some_of (hb1 a z) (s2.trans (same_new hp))
      · have e : a = p := of_decide_eq_true z
        rw [e, upd_same]
        exact fun z => nomatch z
    have e1 : H3 p = some (.lst vs) := s3 _ _ upd_same
    have n2 : p ≠ p2 := ne_of_none e1 hp2
    have g1 := d2.length
    have g2 := d3.length
    simp only [bentS1, bentS2, List.length_cons, List.length_nil] at g1 g2
    refine ⟨p, p2, vs, ws, rfl, rfl, by rw [upd_ne n2]; exact e1, upd_same, few_line (by omega), fun p3 hp3 => ?_⟩
    have s13 : Same H1 H3 := s2.trans ((same_new hp).trans s3)
    have s1e := (s13.trans (same_new (o := .lst ws) hp2)).trans (same_new (o := .lst (vs ++ ws)) hp3)
    have s3e := (same_new (o := .lst ws) hp2).trans (same_new (o := .lst (vs ++ ws)) hp3)
    have s2e := ((same_new (o := .lst vs) hp).trans s3).trans s3e
    have n3 : p3 ≠ b := fun e => by
      have y := some_of nb (s13.trans (same_new (o := .lst ws) hp2))
      rw [e] at hp3
      exact y hp3
    have dA : DSA K S (upd (upd H3 p2 (.lst ws)) p3 (.lst (vs ++ ws))) (vs ++ ws) (bentS1 z ++ bentS2 z) :=
      (d2.mono (hid_mono s2e)).append (d3.mono (hid_same (fun a z => (Bool.or_eq_false_iff.mp z).1) fun a o _ e => s3e a o e))
    refine ⟨b, p3, vs ++ ws, rfl, hB1.same s1e, .inl ⟨.inl (.inl upd_same), n3⟩, by rw [List.length_append]; omega, by rw [List.length_append]; omega, fun v H5 hv k5 b5 => ?_⟩
    obtain ⟨d, hd, dq⟩ := dA.mem hv
    obtain ⟨o1, o2, o3, o4⟩ := oks d hd
    exact hQ v d H5 (dq.mono (hid_dr hSb k5)) ⟨o1, o2, o3, o4⟩ (d1.trans ((Dr.same hB1 s1e).trans ⟨k5, b5⟩))
end
end K01

namespace K01
open PySem PySem.Spec PyProof.Rows L2 Ly
theorem OkX.mono {B C n m : Nat} {d : PyData} (h : OkX B n d) (h1 : B ≤ C) (h2 : n ≤ m) : OkX C m d := ⟨h.show_, Nat.le_trans h.len h1, Nat.le_trans h.deep h2, h.short⟩
theorem OkX.tuple {ds : List PyData} (h : ∀ d ∈ ds, OkX 100 3 d) (hl : ds.length ≤ 13) : OkX 2000 5 (.tuple ds) := by
  refine ⟨?_, ?_, ?_, rfl⟩
  · simp only [PyData.showable]
    exact showA_of fun d hd => (h d hd).show_
  · have := shownT_le fun d hd => (h d hd).len
    omega
  · simp only [PyData.depth]
    have := depthA_le fun d hd => (h d hd).deep
    omega
theorem OkX.list {ds : List PyData} (h : ∀ d ∈ ds, OkX 100 3 d) (hl : ds.length ≤ 13) : OkX 2000 5 (.list ds) := by
  refine ⟨?_, ?_, ?_, rfl⟩
  · simp only [PyData.showable]
    exact showA_of fun d hd => (h d hd).show_
  · have := shownL_le fun d hd => (h d hd).len
    omega
  · simp only [PyData.depth]
    have := depthA_le fun d hd => (h d hd).deep
    omega
def Tx (K : PySem.W.Frag) (S : Addr → Bool) (H : Hp) (v : V) (n : Nat) : Prop := ∃ ds, DS K S H v (.tuple ds) ∧ ds.length ≤ n ∧ ∀ d ∈ ds, OkX 100 3 d
def Dx (K : PySem.W.Frag) (S : Addr → Bool) (H : Hp) (v : V) : Prop := ∃ d, DS K S H v d ∧ OkX 2000 5 d
structure Cl (b : Addr) (S : Addr → Bool) (C : L2.St → Hp → Prop) : Prop where
  sb : S b = true
  live : ∀ σ H, C σ H → ∀ a, S a = true → H a ≠ none
  bag : ∀ σ H, C σ H → IsBag H b
  step : ∀ σ H H', C σ H → Dr b H H' → C σ H'
section
variable {K : PySem.W.Frag} {S : Addr → Bool} {b p : Addr} {H H' : Hp} {v : V} {n m : Nat} {xs : List V} {ds : List PyData}
theorem Tx.dr (hb : S b = true) (h : Tx K S H v n) (d : Dr b H H') : Tx K S H' v n := let ⟨ds, h1, h2, h3⟩ := h; ⟨ds, h1.mono (hid_dr hb d.kp), h2, h3⟩
theorem Dx.dr (hb : S b = true) (h : Dx K S H v) (d : Dr b H H') : Dx K S H' v := let ⟨ds, h1, h2⟩ := h; ⟨ds, h1.mono (hid_dr hb d.kp), h2⟩
theorem Tx.dx (h : Tx K S H v n) (hn : n ≤ 13) : Dx K S H v := let ⟨ds, h1, h2, h3⟩ := h; ⟨_, h1, .tuple h3 (Nat.le_trans h2 hn)⟩
theorem Tx.new (hS : ∀ a, S a = true → H a ≠ none) (hp : H p = none) (h : DSA K S H xs ds) (hl : ds.length ≤ n) (ok : ∀ d ∈ ds, OkX 100 3 d) : Tx K S (upd H p (.tup xs)) (.ref p) n :=
  ⟨ds, .tup (.inl (.inl (by rw [hid_at (out_of hS hp), upd_same]))) (h.mono (hid_mono (same_new hp))), hl, ok⟩
theorem Tx.get (h : Tx K S H v n) : ∃ a xs ds, v = .ref a ∧ SqT K H a xs ∧ DSA K S H xs ds ∧ ds.length ≤ n ∧ ∀ d ∈ ds, OkX 100 3 d := by
  obtain ⟨ds, h1, h2, h3⟩ := h
  obtain ⟨a, xs, rfl, g1, g2⟩ := h1.tup_of
  exact ⟨a, xs, ds, rfl, Same.seqT hid_sub g1, g2, h2, h3⟩
theorem DqA.take {K : PySem.W.Frag} {H : Hp} : ∀ {vs : List V} {ds : List PyData} (n : Nat), DqA K H vs ds → DqA K H (vs.take n) (ds.take n)
  | _, _, 0, _ => .nil
  | _, _, _ + 1, .nil => .nil
  | _, _, n + 1, .cons h1 h2 => .cons h1 (DqA.take n h2)
theorem DqA.drop {K : PySem.W.Frag} {H : Hp} : ∀ {vs : List V} {ds : List PyData} (n : Nat), DqA K H vs ds → DqA K H (vs.drop n) (ds.drop n)
  | _, _, 0, h => h
  | _, _, _ + 1, .nil => .nil
  | _, _, n + 1, .cons _ h2 => DqA.drop n h2
theorem DqA.rev {K : PySem.W.Frag} {H : Hp} : ∀ {vs : List V} {ds : List PyData}, DqA K H vs ds → DqA K H vs.reverse ds.reverse
  | _, _, .nil => .nil
  | _, _, .cons h1 h2 => by
    rw [List.reverse_cons, List.reverse_cons]
    exact (DqA.rev h2).append (.cons h1 .nil)
end
def tTx (K : PySem.W.Frag) (b : Addr) (S : Addr → Bool) (C : L2.St → Hp → Prop) (n : Nat) : TE := fun σ H Q => C σ H ∧ ∀ v H', Dr b H H' → Tx K S H' v n → Q v H'
def tDx (K : PySem.W.Frag) (b : Addr) (S : Addr → Bool) (C : L2.St → Hp → Prop) : TE := fun σ H Q => C σ H ∧ ∀ v H', Dr b H H' → Dx K S H' v → Q v H'
def tOneD (K : PySem.W.Frag) (b : Addr) (S : Addr → Bool) (C : L2.St → Hp → Prop) : TE := fun σ H Q => C σ H ∧ ∀ v d H', Dr b H H' → DS K S H' v d → OkX 100 3 d → Q v H'
def tDxs (K : PySem.W.Frag) (b : Addr) (S : Addr → Bool) (C : L2.St → Hp → Prop) (k : Nat) : TA := fun σ H Q => C σ H ∧ ∀ vs H', Dr b H H' → vs.length = k → (∀ v ∈ vs, Dx K S H' v) → Q vs H'
section
variable {X : Cx} {S : Addr → Bool} {b : Addr} {C : L2.St → Hp → Prop} {pos : Pos} {n m k : Nat} {e e1 e2 : Expr} {es : List Expr}
theorem px_sl {lo hi : Option Expr} {tl tu : TO} {p2 : Pos} (c : Cl b S C) (he : PE X e (tTx X.K b S C n)) (hl : PO X lo tl) (hu : PO X hi tu) (il : ∀ σ H Q, C σ H → (∀ i, Q i H) → tl σ H Q) (iu : ∀ σ H Q, C σ H → (∀ i, Q i H) → tu σ H Q) :
    PE X (.Subscript e (.Slice lo hi none p2) pos) (tTx X.K b S C n) :=
  pe_weak (pe_slice sl_tupA he hl hu) fun σ H Q ⟨h, q⟩ => ⟨h, fun v H1 d1 t1 => il σ H1 _ (c.step _ _ _ h d1) fun i => iu σ H1 _ (c.step _ _ _ h d1) fun j => by
    obtain ⟨a, xs, ds, rfl, g1, g2, g3, g4⟩ := t1.get
    have hB := d1.bag
    have lv := c.live _ _ (c.step _ _ _ h d1)
    exact ⟨a, xs, rfl, g1, fun _ => q _ H1 d1 t1, fun _ p hp => q _ _ (d1.trans (Dr.new hB hp)) (Tx.new lv hp (DqA.take _ (DqA.drop _ g2)) (by
      rw [List.length_take, List.length_drop]
      omega) fun d hd => g4 d (List.mem_of_mem_drop (List.mem_of_mem_take hd)))⟩⟩
theorem px_add (c : Cl b S C) (h1 : PE X e1 (tTx X.K b S C n)) (h2 : PE X e2 (tTx X.K b S C m)) (hl : n + m ≤ 1000 := by decide) : PE X (.BinOp e1 .Add e2 pos) (tTx X.K b S C (n + m)) :=
  pe_weak (pe_op op_catA h1 h2) fun σ H Q ⟨h, q⟩ => ⟨h, fun v H1 d1 t1 => ⟨c.step _ _ _ h d1, fun u H2 d2 t2 => by
    have d12 := d1.trans d2
    have t1' := t1.dr c.sb d2
    obtain ⟨a, xs, ds, rfl, g1, g2, g3, g4⟩ := t1'.get
    obtain ⟨a', ys, es, rfl, f1, f2, f3, f4⟩ := t2.get
    have lx := g2.length
    have ly := f2.length
    refine ⟨a, a', xs, ys, rfl, rfl, g1, f1, few_line (by omega), fun _ => q _ H2 d12 ?_, fun _ _ => q _ H2 d12 ?_, fun _ _ p hp => q _ _ (d12.trans (Dr.new d12.bag hp)) (Tx.new (c.live _ _ (c.step _ _ _ h d12)) hp (g2.append f2) (by rw [List.length_append]; omega) fun d hd => (List.mem_append.mp hd).elim (g4 d) (f4 d))⟩
    · exact let ⟨ds, z1, z2, z3⟩ := t2; ⟨ds, z1, by omega, z3⟩
    · exact let ⟨ds, z1, z2, z3⟩ := t1'; ⟨ds, z1, by omega, z3⟩⟩⟩
theorem px_one {x1} (c : Cl b S C) (h1 : PE X e (tOneD X.K b S C)) (hs : starEach [e] X.env = (false, eval e X.env) :: starEach [] X.env := by rfl) : PE X (.Tuple [e] x1 pos) (tTx X.K b S C 1) :=
  pe_weak (pe_tup (pa_cons h1 pa_nil hs)) fun σ H Q ⟨h, q⟩ => ⟨h, fun v d H1 d1 db ok => ⟨few_line (by simp), fun p hp => q _ _ (d1.trans (Dr.new d1.bag hp)) (Tx.new (c.live _ _ (c.step _ _ _ h d1)) hp (.cons db .nil) (by simp) fun d' hd => by
    rw [List.mem_singleton.mp hd]
    exact ok)⟩⟩
theorem px_unit {x1} (c : Cl b S C) : PE X (.Tuple [] x1 pos) (tTx X.K b S C 0) :=
  pe_weak (pe_tup pa_nil) fun σ H Q ⟨h, q⟩ => ⟨few_line (by simp), fun p hp => q _ _ (Dr.new (c.bag _ _ h) hp) (Tx.new (c.live _ _ h) hp .nil (by simp) fun _ hd => (by cases hd))⟩
theorem px_rev {j : Nat} {p1 p2 p3 : Pos} (c : Cl b S C) (h1 : PE X e (tTx X.K b S C n)) : PE X (.Subscript e (.Slice none none (some (.UnaryOp .USub (.Constant (.int 1) j p1) p2)) p3) pos) (tTx X.K b S C n) :=
  pe_weak (pe_revT h1) fun σ H Q ⟨h, q⟩ => ⟨h, fun v H1 d1 t1 => by
    obtain ⟨a, xs, ds, rfl, g1, g2, g3, g4⟩ := t1.get
    exact ⟨a, xs, rfl, g1, fun p hp => q _ _ (d1.trans (Dr.new d1.bag hp)) (Tx.new (c.live _ _ (c.step _ _ _ h d1)) hp (DqA.rev g2) (by rw [List.length_reverse]; exact g3) fun d hd => g4 d (List.mem_reverse.mp hd))⟩⟩
theorem px_dx (h1 : PE X e (tTx X.K b S C n)) (hn : n ≤ 13 := by decide) : PE X e (tDx X.K b S C) := pe_weak h1 fun σ H Q ⟨h, q⟩ => ⟨h, fun v H1 d1 t1 => q v H1 d1 (t1.dx hn)⟩
theorem px_list {p : Pos} (c : Cl b S C) (hg : Gl X "list") (hm : X.mg "list" = none) (h1 : PE X e (tTx X.K b S C n)) (hn : n ≤ 13) (he : starEach [e] X.env = (false, eval e X.env) :: starEach [] X.env := by rfl) : PE X (.Call (.Name "list" p) [e] [] pos) (tDx X.K b S C) :=
  pe_weak (pe_callTy call_list_of hg hm (by decide +kernel) (pa_cons h1 pa_nil he) (he := he)) fun σ H Q ⟨h, q⟩ => ⟨h, fun v H1 d1 t1 => by
    obtain ⟨a, xs, ds, rfl, g1, g2, g3, g4⟩ := t1.get
    refine ⟨a, xs, rfl, .inr g1, fun l hl => q _ _ (d1.trans (Dr.new d1.bag hl)) ⟨.list ds, .lst (.inl (.inl (by rw [hid_at (out_of (c.live _ _ (c.step _ _ _ h d1)) hl), upd_same]))) (g2.mono (hid_mono (same_new hl))), .list g4 (by omega)⟩⟩⟩
theorem pxs_nil (c : Cl b S C) : PA X [] (tDxs X.K b S C 0) := pa_weak pa_nil fun σ H Q ⟨h, q⟩ => q [] H (Dr.refl (c.bag _ _ h)) rfl fun _ hv => (by cases hv)
theorem pxs_cons (c : Cl b S C) (h1 : PE X e (tDx X.K b S C)) (h2 : PA X es (tDxs X.K b S C k)) (hs : starEach (e :: es) X.env = (false, eval e X.env) :: starEach es X.env := by rfl) : PA X (e :: es) (tDxs X.K b S C (k + 1)) :=
  pa_weak (pa_cons h1 h2 hs) fun σ H Q ⟨h, q⟩ => ⟨h, fun v H1 d1 t1 => ⟨c.step _ _ _ h d1, fun vs H2 d2 e2 a2 => q _ H2 (d1.trans d2) (by rw [List.length_cons, e2]) fun u mu => (List.mem_cons.mp mu).elim (fun z => by rw [z]; exact t1.dr c.sb d2) (a2 u)⟩⟩
end
end K01

namespace K01
open PySem PySem.Spec PyProof.Rows L2 Ly
section
variable {P : Program} {w : World} {K : PySem.W.Frag} {mg : Str → Option Value} {base : Heap} {f fT fS fO : Addr} {fd fdT fdS fdO : FuncData}
/-- a LOT, bent -/
def spBn1 (K : PySem.W.Frag) : Sp := fun vs H Q _ => ∃ (b a : Addr) (r : List Str) (S : Addr → Bool), vs = [.ref b, .ref a, .int 1] ∧ IsBag H b ∧ S b = true ∧ (∀ a', S a' = true → H a' ≠ none) ∧ SqT K (hid S H) a (r.map .str) ∧ r ≠ [] ∧ r.length ≤ 4 ∧ (∀ x ∈ r, x ∈ poolA ++ poolB) ∧ ∀ v H', Dr b H H' → Dx K S H' v → Q v H'
theorem name_ok : ∀ x ∈ poolA ++ poolB, (PyData.str x).showable = true ∧ (PyData.str x).shown.length ≤ 100 ∧ (PyData.str x).depth ≤ 3 ∧ shortD (.str x) = true := by decide +kernel
theorem odd_ok : ∀ d ∈ odd1 ++ odd2, d.showable = true ∧ d.shown.length ≤ 100 ∧ d.depth ≤ 3 ∧ shortD d = true := by decide +kernel
theorem row_tx {K : PySem.W.Frag} {S : Addr → Bool} {a : Addr} {H : Hp} {r : List Str} (h : SqT K (hid S H) a (r.map .str)) (l4 : r.length ≤ 4) (mem : ∀ x ∈ r, x ∈ poolA ++ poolB) : Tx K S H (.ref a) 4 := by
  refine ⟨r.map .str, .tup h (dqa_strs r), by rw [List.length_map]; exact l4, fun d hd => ?_⟩
  · obtain ⟨x, hx, rfl⟩ := List.mem_map.mp hd
    obtain ⟨o1, o2, o3, o4⟩ := name_ok x (mem x hx)
    exact ⟨o1, o2, o3, o4⟩
theorem ok_bn1 (F : FnP K "_law_bent" i_law_bent f fd) (gF : mg "_law_bent" = some (.ref f)) (FS : FnP K "_law_some" i_law_some fS fdS) (gS : mg "_law_some" = some (.ref fS)) (FT : FnP K "_law_take" i_law_take fT fdT) (gT : mg "_law_take" = some (.ref fT)) (FO : FnP K "_law_odd" i_law_odd fO fdO) (gO : mg "_law_odd" = some (.ref fO)) (mi : mg "int" = none) (ml : mg "len" = none)
    (mI : mg "isinstance" = none) (mt : mg "tuple" = none) (md : mg "dict" = none) (ms : mg "str" = none) (mL : mg "list" = none) : FnOk P w K mg base CX0 4 f fd ["bag", "thing", "deep"] (spBn1 K) := by
  have GS : FnOk P w K mg base CX0 2 fS fdS ["bag", "things"] (spSome K) := ok_some FS FT gT mi ml
  have bS : Binds K fdS ["bag", "things"] [] := FS.bindsN fun _ _ _ _ _ _ us hl => match us, hl with | [_, _], _ => rfl
  have GT : FnOk P w K mg base CX0 1 fT fdT ["bag", "many"] spTake := ok_take FT mi
  have bT : Binds K fdT ["bag", "many"] [] := FT.bindsN fun _ _ _ _ _ _ us hl => match us, hl with | [_, _], _ => rfl
  have GO : FnOk P w K mg base CX0 3 fO fdO ["bag"] (spOdd K) := ok_odd FO FS gS FT gT mi ml
  have bO : Binds K fdO ["bag"] [] := FO.bindsN fun _ _ _ _ _ _ us hl => match us, hl with | [_], _ => rfl
  have GB : FnOk P w K mg base CX0 3 f fd ["bag", "thing", "deep"] (spBn0 K) := ok_bn0 F FS gS FT gT mi ml mI mt md ms
  have bB : Binds K fd ["bag", "thing", "deep"] [] := F.bindsN fun _ _ _ _ _ _ us hl => match us, hl with | [_, _, _], _ => rfl
  refine F.ok scBn (fun vs H Q E h => ?_) (fun cd A outer s H vs Q E hr h => ?_)
  · obtain ⟨b, a, r, S, rfl, _⟩ := h
    rfl
  · obtain ⟨b, a, r, S, rfl, hB, hSb, hS1, hha, ne, l4, mem, hQ⟩ := h
    have ha := Same.seqT hid_sub hha
    have aH : ∀ {H' : Hp}, Dr b H H' → SqT K (hid S H') a (r.map .str) := fun d => Same.seqT (hid_dr hSb d.kp) hha
    have r1 : Room 1 _ := hr.mono (by decide)
    have r2 : Room 2 _ := hr.mono (by decide)
    have oks : Oks r := fun x m => oks_all x (List.mem_append_left _ (List.mem_append_left _ (mem x m)))
    obtain ⟨C, eC⟩ : ∃ C : L2.St → Hp → Prop, C = fun σ H => σ[0]? = some (some (.ref b)) ∧ σ[1]? = some (some (.ref a)) ∧ σ[2]? = some (some (.int 1)) ∧ (∃ t : Nat, σ[4]? = some (some (.int t)) ∧ t ≤ r.length) ∧ IsBag H b ∧ SqT K (hid S H) a (r.map .str) ∧ ∀ a', S a' = true → H a' ≠ none := ⟨_, rfl⟩
    have cl : Cl b S C := by
      rw [eC]
      exact ⟨hSb, fun σ H h => h.2.2.2.2.2.2, fun σ H h => h.2.2.2.2.1, fun σ H H' h d => ⟨h.1, h.2.1, h.2.2.1, h.2.2.2.1, d.bag, Same.seqT (hid_dr hSb d.kp) h.2.2.2.2.2.1, hid_live hSb d h.2.2.2.2.2.2⟩⟩
    obtain ⟨C1, eC1⟩ : ∃ C1 : L2.St → Hp → Prop, C1 = fun σ H => C σ H ∧ ∃ t : Nat, σ[4]? = some (some (.int t)) ∧ t < r.length := ⟨_, rfl⟩
    have cl1 : Cl b S C1 := by
      rw [eC1]
      exact ⟨hSb, fun σ H h => cl.live σ H h.1, fun σ H h => cl.bag σ H h.1, fun σ H H' h d => ⟨cl.step σ H H' h.1 d, h.2⟩⟩
    obtain ⟨X, eX⟩ : ∃ X, X = (cxOf CX0 P w K mg base nmBn "_law_bent" (defScope (topS i_law_bent)) f cd A outer s H E).nox := ⟨_, rfl⟩
    have th : ∀ pos, PE (cxOf CX0 P w K mg base nmBn "_law_bent" (defScope (topS i_law_bent)) f cd A outer s H E).nox (.Name "thing" pos) (tTx K b S C 4) := fun pos => pe_weak (pv 1) fun σ H Q ⟨h, q⟩ => by
      have hh := h
      rw [eC] at hh
      exact ⟨.ref a, hh.2.1, q _ H (Dr.refl hh.2.2.2.2.1) (row_tx hh.2.2.2.2.2.1 l4 mem)⟩
    have th1 : ∀ pos, PE (cxOf CX0 P w K mg base nmBn "_law_bent" (defScope (topS i_law_bent)) f cd A outer s H E).nox (.Name "thing" pos) (tTx K b S C1 4) := fun pos => pe_weak (th pos) fun σ H Q ⟨h, q⟩ => ⟨by rw [eC1] at h; exact h.1, q⟩
    have n0 : ∀ (D : L2.St → Hp → Prop) σ H (Q : Option Int → Hp → Prop), D σ H → (∀ i, Q i H) → tNoPart σ H Q := fun D σ H Q _ q => q none
    have n4 : ∀ σ H (Q : Option Int → Hp → Prop), C σ H → (∀ i, Q i H) → tPart (tVar 4) σ H Q := fun σ H Q h q => by
      rw [eC] at h
      obtain ⟨_, _, _, ⟨t, e, _⟩, _⟩ := h
      exact ⟨_, e, _, rfl, q _⟩
    have n5 : ∀ σ H (Q : Option Int → Hp → Prop), C σ H → (∀ i, Q i H) → tPart (tOp (rI0 fun i j => .int (i + j)) (tVar 4) (tC (.int 1))) σ H Q := fun σ H Q h q => by
      rw [eC] at h
      obtain ⟨_, _, _, ⟨t, e, _⟩, _⟩ := h
      exact ⟨_, e, _, _, rfl, rfl, _, rfl, q _⟩
    have w1 : ∀ {t : TO}, (∀ σ H (Q : Option Int → Hp → Prop), C σ H → (∀ i, Q i H) → t σ H Q) → ∀ σ H (Q : Option Int → Hp → Prop), C1 σ H → (∀ i, Q i H) → t σ H Q := fun g σ H Q h q => g σ H Q (by rw [eC1] at h; exact h.1) q
    have bn : ∀ (e : Expr), PE (cxOf CX0 P w K mg base nmBn "_law_bent" (defScope (topS i_law_bent)) f cd A outer s H E).nox e (tCall (spBn0 K) [] (fun _ _ _ => False) (tCons (tVar 0) (tCons (tOp (rIxT K) (tVar 1) (tVar 4)) (tCons (tOp (rI0 fun i j => .int (i - j)) (tVar 2) (tC (.int 1))) tNil)))) → PE (cxOf CX0 P w K mg base nmBn "_law_bent" (defScope (topS i_law_bent)) f cd A outer s H E).nox e (tOneD K b S C1) := fun e h => pe_weak h fun σ H Q ⟨h, q⟩ => by
      have h' := h
      rw [eC1, eC] at h'
      obtain ⟨⟨h0, h1, h2, _, hB, ha, lv⟩, t, h4, lt⟩ := h'
      refine ⟨.ref b, h0, .ref a, h1, .int t, h4, a, _, t, .str r[t], rfl, rfl, Same.seqT hid_sub ha, atI_nat (by rw [List.getElem?_map, List.getElem?_eq_getElem lt]; rfl), .int 1, h2, 1, 1, rfl, rfl, b, r[t], S, rfl, hB, hSb, lv, mem _ (List.getElem_mem lt), fun v d H' db ok dr => q v d H' dr db ok⟩
    have od : ∀ (e : Expr), PE (cxOf CX0 P w K mg base nmBn "_law_bent" (defScope (topS i_law_bent)) f cd A outer s H E).nox e (tCall (spOdd K) [] (fun _ _ _ => False) (tCons (tVar 0) tNil)) → PE (cxOf CX0 P w K mg base nmBn "_law_bent" (defScope (topS i_law_bent)) f cd A outer s H E).nox e (tOneD K b S C) := fun e h => pe_weak h fun σ H Q ⟨h, q⟩ => by
      have h' := h
      rw [eC] at h'
      refine ⟨.ref b, h'.1, b, S, rfl, h'.2.2.2.2.1, hSb, h'.2.2.2.2.2.2, fun v H' ⟨d, hd, db⟩ dr => ?_⟩
      obtain ⟨o1, o2, o3, o4⟩ := odd_ok d hd
      exact q v d H' dr db ⟨o1, o2, o3, o4⟩
    refine ⟨_, PSs.nox (pss_cons (ps_set (i := 3) scBn.nd rfl (.inl rfl) (pe_call GT r1 (by rfl) gT FT.kp bT .nil pass0 (pa_cons (pv 0) (pa_cons pe_int pa_nil))))
      (pss_cons (ps_if (PW.pt (pw_and (pt_val (pe_callB call_isD (by rfl) mI (by decide +kernel) (pa_cons (pv 1) (pa_cons (pe_tyN (T := "tuple") (by rfl) mt (by decide +kernel)) pa_nil))))
          (pw_and (pt_cmpR (op_neQ (hu64 hr)) (pv 1) (pe_tup pa_nil) (nomark _)) (pw_and (pt_cmpR op_gt (pv 2) pe_int (nomark _)) (pw_and1 (pt_cmpR op_gt (pv 3) pe_int (nomark _)))))))
        (pss_cons (ps_set (i := 4) scBn.nd rfl (.inl rfl) (pe_call GT r1 (by rfl) gT FT.kp bT .nil pass0 (pa_cons (pv 0) (pa_cons (pe_callB call_len_seq (by rfl) ml PySem.boot_len (pa_cons (pv 1) pa_nil)) pa_nil))))
          (pss_one (ps_ret (px_add cl1 (px_add cl1 (px_sl cl1 (th1 _) po_none (po_some (pv 4)) (n0 C1) (w1 n4)) (px_one cl1 (bn _ (pe_call GB hr (by rfl) gF F.kp bB .nil pass0 (pa_cons (pv 0) (pa_cons (pe_ix ix_tup (pv 1) (pv 4) (fun _ _ => rfl)) (pa_cons (pe_op op_sub (pv 2) pe_int) pa_nil)))))))
            (px_sl cl1 (th1 _) (po_some (pe_op op_add (pv 4) pe_int)) po_none (w1 n5) (n0 C1)))))) pss_nil)
      (pss_cons (ps_if (PW.pt (pw_and (pt_val (pe_callB call_isD (by rfl) mI (by decide +kernel) (pa_cons (pv 1) (pa_cons (pe_tyN (T := "dict") (by rfl) md (by decide +kernel)) pa_nil)))) pw_never)) Ly.pss_never pss_nil)
      (pss_cons (ps_if (pt_val (pe_callB call_isD (by rfl) mI (by decide +kernel) (pa_cons (pv 1) (pa_cons (pe_tyN (T := "tuple") (by rfl) mt (by decide +kernel)) pa_nil))))
        (pss_cons (ps_set (i := 4) scBn.nd rfl (.inl rfl) (pe_call GT r1 (by rfl) gT FT.kp bT .nil pass0 (pa_cons (pv 0) (pa_cons (pe_op op_add (pe_callB call_len_seq (by rfl) ml PySem.boot_len (pa_cons (pv 1) pa_nil)) pe_int) pa_nil))))
        (pss_cons (ps_set (i := 7) scBn.nd rfl (.inl rfl) (pe_lst (t := tDxs K b S C 4) (pxs_cons cl (px_list cl (by rfl) mL (th _) (by decide)) (pxs_cons cl (px_dx (px_add cl (px_sl cl (th _) po_none (po_some (pv 4)) (n0 C) n4) (px_sl cl (th _) (po_some (pe_op op_add (pv 4) pe_int)) po_none n5 (n0 C))))
          (pxs_cons cl (px_dx (px_add cl (px_add cl (px_sl cl (th _) po_none (po_some (pv 4)) (n0 C) n4) (px_sl cl (th _) (po_some (pv 4)) (po_some (pe_op op_add (pv 4) pe_int)) n4 n5)) (px_sl cl (th _) (po_some (pv 4)) po_none n4 (n0 C))))
          (pxs_cons cl (px_dx (px_rev cl (th _))) (pxs_nil cl)))))))
        (pss_one (ps_ret (pe_call GS r2 (by rfl) gS FS.kp bS .nil pass0 (pa_cons (pv 0) (pa_cons (pe_op op_cat (pv 7) (pe_lst (t := tDxs K b S C 3) (pxs_cons cl (px_dx (px_add cl (px_sl cl (th _) (po_some (pv 4)) po_none n4 (n0 C)) (px_sl cl (th _) po_none (po_some (pv 4)) (n0 C) n4)))
          (pxs_cons cl (px_dx (px_add cl (px_add cl (px_sl cl (th _) po_none (po_some (pv 4)) (n0 C) n4) (px_one cl (od _ (pe_call GO hr (by rfl) gO FO.kp bO .nil pass0 (pa_cons (pv 0) pa_nil))))) (px_sl cl (th _) (po_some (pv 4)) po_none n4 (n0 C))))
          (pxs_cons cl (px_dx (px_unit cl)) (pxs_nil cl)))))) pa_nil))))))) pss_nil)
      Ly.pss_never)))), ?_⟩
    have rq : Dq K H (.ref a) (rowD r) := row_is ha
    have a4 : ∀ {H' : Hp}, Dr b H H' → SqT K H' a (r.map .str) := fun d => d.seqT ha
    refine ⟨.ref b, rfl, b, 9, rfl, hB, by decide, by decide, fun way H1 v0 v1 k1 b1 => ?_⟩
    have d1 : Dr b H H1 := ⟨k1, b1⟩
    have ha1 := a4 d1
    have no : (!PyData.eqv (rowD r) (.tuple [])) = true := by
      have z := eqv_row r []
      have z : PyData.eqv (rowD r) (.tuple []) = decide (r = []) := z
      rw [z, decide_eq_false ne]
      rfl
    refine ⟨.ref a, rfl, .ref a, "tuple", rowD r, _, rfl, row_is ha1, kit_tuple _, _, rfl, iteT ?_⟩
    refine ⟨.ref a, rfl, few_line (by simp), fun u hu => ⟨rowD r, .tuple [], (row_is ha1).mono (same_new hu), .tup (.inl (.inl upd_same)) .nil, shaped_row oks, rfl, _, rfl, ?_⟩⟩
    rw [no]
    have d2 := d1.trans (Dr.new (o := .tup []) d1.bag hu)
    generalize upd H1 u (.tup []) = H2 at d2 ⊢
    have ha2 := a4 d2
    refine iteT ⟨.int 1, rfl, 1, 0, rfl, rfl, _, rfl, iteT ⟨.int way, rfl, way, 3, rfl, rfl, _, rfl, ite2' (fun c => ?_) (fun c => ?_)⟩⟩
    · refine ⟨.ref b, rfl, .ref a, rfl, a, _, rfl, .inr ha2, b, _, rfl, d2.bag, ?_, ?_, fun t H3 t0 t1 k3 b3 => ?_⟩
      · rw [List.length_map]
        have := List.length_pos_iff.mpr ne
        omega
      · rw [List.length_map]
        omega
      have d3 := d2.trans ⟨k3, b3⟩
      obtain ⟨j, rfl⟩ : ∃ j : Nat, t = (j : Int) := ⟨t.toNat, by omega⟩
      have lt : j < r.length := by
        rw [List.length_map] at t1
        omega
      refine ⟨?_, fun v H4 d4 tx => hQ v H4 (d3.trans d4) (tx.dx (by decide))⟩
      rw [eC1, eC]
      exact ⟨⟨rfl, rfl, rfl, ⟨j, rfl, Nat.le_of_lt lt⟩, d3.bag, aH d3, hid_live hSb d3 hS1⟩, j, rfl, lt⟩
    · refine ⟨.ref a, rfl, .ref a, "dict", rowD r, _, rfl, row_is ha2, kit_dict _, _, rfl, iteF (iteF ?_)⟩
      refine ⟨.ref a, rfl, .ref a, "tuple", rowD r, _, rfl, row_is ha2, kit_tuple _, _, rfl, iteT ?_⟩
      refine ⟨.ref b, rfl, .ref a, rfl, a, _, rfl, .inr ha2, _, _, rfl, rfl, b, _, rfl, d2.bag, ?_, ?_, fun t H3 t0 t1 k3 b3 => ?_⟩
      · rw [List.length_map]
        omega
      · rw [List.length_map]
        omega
      have d3 := d2.trans ⟨k3, b3⟩
      obtain ⟨j, rfl⟩ : ∃ j : Nat, t = (j : Int) := ⟨t.toNat, by omega⟩
      have lt : j ≤ r.length := by
        rw [List.length_map] at t1
        omega
      have ha3 := a4 d3
      refine ⟨?_, fun vs H4 d4 lv av => ⟨few_line (by omega), fun p hp => ?_⟩⟩
      · rw [eC]
        exact ⟨rfl, rfl, rfl, ⟨j, rfl, lt⟩, d3.bag, aH d3, hid_live hSb d3 hS1⟩
      have npb := d4.bag.ne hp
      have d5 := d4.trans (Dr.new (o := .lst vs) d4.bag hp)
      refine ⟨.ref b, rfl, .ref p, rfl, ?_, fun ws H5 d6 lw aw => ⟨few_line (by omega), fun p2 hp2 => ?_⟩⟩
      · rw [eC]
        exact ⟨rfl, rfl, rfl, ⟨j, rfl, lt⟩, d5.bag, aH (d3.trans d5), hid_live hSb d5 (hid_live hSb d3 hS1)⟩
      have e1 : H5 p = some (.lst vs) := d6.kp _ _ npb upd_same
      have n2 : p ≠ p2 := ne_of_none e1 hp2
      refine ⟨p, p2, vs, ws, rfl, rfl, by rw [upd_ne n2]; exact e1, upd_same, few_line (by omega), fun p3 hp3 => ?_⟩
      have d7 := Dr.new (o := .lst ws) d6.bag hp2
      have d8 := Dr.new (o := .lst (vs ++ ws)) d7.bag hp3
      have n3 := d7.bag.ne hp3
      have dT := d7.trans d8
      refine ⟨b, p3, vs ++ ws, rfl, d8.bag, .inl ⟨.inl (.inl upd_same), n3⟩, by rw [List.length_append]; omega, by rw [List.length_append]; omega, fun v H6 hv k6 b6 => hQ v H6 ((((d3.trans d5).trans d6).trans dT).trans ⟨k6, b6⟩) ?_⟩
      have dv : Dx K S (upd (upd H5 p2 (.lst ws)) p3 (.lst (vs ++ ws))) v := by
        rcases List.mem_append.mp hv with m | m
        · exact (av v m).dr hSb (((Dr.new (o := .lst vs) d4.bag hp).trans d6).trans dT)
        · exact (aw v m).dr hSb dT
      exact dv.dr hSb ⟨k6, b6⟩
end
end K01

namespace K01
open PySem PySem.Spec PyProof.Rows L2 Ly
/-- a text of at most n signs; C tells what the names hold -/
def tT (C : L2.St → Hp → Prop) (n : Nat) : TE := fun σ H Q => C σ H ∧ ∀ s, GT n s → Q (.str s) H
def tTs (C : L2.St → Hp → Prop) (k n : Nat) : TA := fun σ H Q => C σ H ∧ ∀ ss : List Str, ss.length = k → (∀ s ∈ ss, GT n s) → Q (ss.map .str) H
section
variable {X : Cx} {C : L2.St → Hp → Prop} {pos : Pos} {n m k : Nat} {e e1 e2 : Expr} {es : List Expr}
theorem pt_lit {x : Str} {j} (h : gtB n x = true := by decide +kernel) : PE X (.Constant (.str x) j pos) (tT C n) := pe_weak pe_str fun σ H Q ⟨_, q⟩ => q _ (gt_by h)
theorem pt_nm (i : Nat) {x : Str} (hC : ∀ σ H, C σ H → ∃ s, σ[i]? = some (some (.str s)) ∧ GT n s) (hN : X.N[i]? = some x := by rfl) (hv : Vis X.env.scope x := by first | exact Or.inl rfl | exact Or.inr (Or.inl rfl) | exact Or.inr (Or.inr rfl)) (hd : (x == ("__debug__" : Str)) = false := by decide)
    (hcd : (x == ("__classdict__" : Str)) = false := by decide) : PE X (.Name x pos) (tT C n) :=
  pe_weak (pe_var hN hv hd hcd) fun σ H Q ⟨c, q⟩ => let ⟨s, e, g⟩ := hC σ H c; ⟨.str s, e, q s g⟩
theorem pt_add (h1 : PE X e1 (tT C n)) (h2 : PE X e2 (tT C m)) (hl : n + m ≤ 100 := by decide) : PE X (.BinOp e1 .Add e2 pos) (tT C (n + m)) :=
  pe_weak (pe_op op_add_str h1 h2) fun σ H Q ⟨c, q⟩ => ⟨c, fun a ga => ⟨c, fun b gb => ⟨a, b, rfl, rfl, few_line (by
    have e1 : a.length = a.cps.toList.length := by simp [Str.length]
    have e2 : b.length = b.cps.toList.length := by simp [Str.length]
    have := ga.1
    have := gb.1
    omega), q _ (ga.add gb)⟩⟩⟩
theorem pt_cut {lo hi : Option Expr} {tl tu : TO} {p2 : Pos} (he : PE X e (tT C n)) (hn : n ≤ 100) (hl : PO X lo tl) (hu : PO X hi tu) (il : ∀ σ H Q, C σ H → (∀ i, Q i H) → tl σ H Q) (iu : ∀ σ H Q, C σ H → (∀ i, Q i H) → tu σ H Q) :
    PE X (.Subscript e (.Slice lo hi none p2) pos) (tT C n) :=
  pe_weak (pe_slice sl_str he hl hu) fun σ H Q ⟨h, q⟩ => ⟨h, fun a ga => il σ H _ h fun i => iu σ H _ h fun j => ⟨a, rfl, few_line (by
    have e1 : a.length = a.cps.toList.length := by simp [Str.length]
    have := ga.1
    omega), q _ (ga.cut i j)⟩⟩
theorem pt_12 {x : Str} {j l} {p1 p2 : Pos} (h : gtB 1 x = true := by decide +kernel) (h1 : x.length = 1 := by decide +kernel) : PE X (.BinOp (.Constant (.str x) j p1) .Mult (.Constant (.int 12) l p2) pos) (tT C 12) :=
  pe_weak (pe_op op_mul12 pe_str pe_int) fun σ H Q ⟨_, q⟩ => ⟨x, rfl, rfl, h1, q _ (gt_rep (gt_by h) h1)⟩
theorem pts_nil' : PA X [] (tTs C 0 n) := pa_weak pa_nil fun σ H Q ⟨_, q⟩ => q [] rfl fun _ hs => (by cases hs)
theorem pts_cons (h1 : PE X e (tT C n)) (h2 : PA X es (tTs C k m)) (hl : n ≤ m := by decide) (hs : starEach (e :: es) X.env = (false, eval e X.env) :: starEach es X.env := by rfl) : PA X (e :: es) (tTs C (k + 1) m) :=
  pa_weak (pa_cons h1 h2 hs) fun σ H Q ⟨c, q⟩ => ⟨c, fun s g => ⟨c, fun ss l a => q (s :: ss) (by rw [List.length_cons, l]) fun u mu => (List.mem_cons.mp mu).elim (fun z => by rw [z]; exact g.mono hl) (a u)⟩⟩
end
section
variable {P : Program} {w : World} {K : PySem.W.Frag} {mg : Str → Option Value} {base : Heap} {f fT fS : Addr} {fd fdT fdS : FuncData}
abbrev nmNn : List Str := ["bag", "sign", "some", "letters", "name", "at", "turn"]
theorem scNn : FnScope nmNn ["bag"] (defScope (topS i_law_near_names)) := ⟨rfl, rfl, rfl, by decide +kernel, rfl, by decide +kernel, by decide +kernel⟩
def sgs (x : Str) : List Str := x.cps.toList.map fun c => ⟨#[c]⟩
theorem sgs_eq (x : Str) : signsV x = (sgs x).map .str := by
  unfold signsV sgs
  rw [List.map_map]
  rfl
theorem gt_letters : (sgs letters).length = 26 ∧ ∀ s ∈ sgs letters, gtB 1 s = true := by decide +kernel
theorem gt_digits : (sgs "0123456789").length = 10 ∧ ∀ s ∈ sgs "0123456789", gtB 1 s = true := by decide +kernel
theorem sum_le {n : Nat} : ∀ {ys : List Str}, (∀ y ∈ ys, GT n y) → (ys.map (·.length)).sum ≤ n * ys.length
  | [], _ => Nat.zero_le _
  | y :: ys, h => by
    have h1 := (h y List.mem_cons_self).1
    have h2 := sum_le (n := n) fun z m => h z (List.mem_cons_of_mem _ m)
    have e1 : y.length = y.cps.toList.length := by simp [Str.length]
    rw [List.map_cons, List.sum_cons, List.length_cons, Nat.mul_succ]
    omega
theorem str_mem {ss : List Str} {v : V} (h : v ∈ ss.map V.str) : ∃ s ∈ ss, v = .str s := by
  obtain ⟨s, m, e⟩ := List.mem_map.mp h
  exact ⟨s, m, e.symm⟩
/-- names, and what is none, but near -/
def spNn (K : PySem.W.Frag) : Sp := fun vs H Q _ => ∃ b : Addr, vs = [.ref b] ∧ IsBag H b ∧ ∀ l (ss : List Str) H', H l = none → H' l = some (.lst (ss.map .str)) → ss.length = 33 → (∀ s ∈ ss, GT 60 s) → Dr b H H' → Q (.ref l) H'
theorem ok_nn (F : FnP K "_law_near_names" i_law_near_names f fd) (FS : FnP K "_law_some" i_law_some fS fdS) (gS : mg "_law_some" = some (.ref fS)) (FT : FnP K "_law_take" i_law_take fT fdT) (gT : mg "_law_take" = some (.ref fT)) (mi : mg "int" = none) (ml : mg "len" = none)
    (mL : mg "list" = none) (mr : mg "range" = none) : FnOk P w K mg base CX0 3 f fd ["bag"] (spNn K) := by
  have GS : FnOk P w K mg base CX0 2 fS fdS ["bag", "things"] (spSome K) := ok_some FS FT gT mi ml
  have bS : Binds K fdS ["bag", "things"] [] := FS.bindsN fun _ _ _ _ _ _ us hl => match us, hl with | [_, _], _ => rfl
  have GT1 : FnOk P w K mg base CX0 1 fT fdT ["bag", "many"] spTake := ok_take FT mi
  have bT : Binds K fdT ["bag", "many"] [] := FT.bindsN fun _ _ _ _ _ _ us hl => match us, hl with | [_, _], _ => rfl
  refine F.ok scNn (fun vs H Q E h => ?_) (fun cd A outer s H vs Q E hr h => ?_)
  · obtain ⟨b, rfl, _⟩ := h
    rfl
  · obtain ⟨b, rfl, hB, hQ⟩ := h
    have r1 : Room 1 _ := hr.mono (by decide)
    obtain ⟨C0, e0⟩ : ∃ C : L2.St → Hp → Prop, C = fun _ _ => True := ⟨_, rfl⟩
    obtain ⟨C1, e1⟩ : ∃ C : L2.St → Hp → Prop, C = fun σ _ => ∃ s, σ[1]? = some (some (.str s)) ∧ GT 1 s := ⟨_, rfl⟩
    obtain ⟨C2, e2⟩ : ∃ C : L2.St → Hp → Prop, C = fun σ _ => (∃ s, σ[1]? = some (some (.str s)) ∧ GT 1 s) ∧ (∃ s, σ[4]? = some (some (.str s)) ∧ GT 13 s) ∧ ∃ i : Int, σ[5]? = some (some (.int i)) := ⟨_, rfl⟩
    have c1 : ∀ σ H, C1 σ H → ∃ s, σ[1]? = some (some (.str s)) ∧ GT 1 s := fun σ H h => by rw [e1] at h; exact h
    have c2 : ∀ σ H, C2 σ H → ∃ s, σ[1]? = some (some (.str s)) ∧ GT 1 s := fun σ H h => by rw [e2] at h; exact h.1
    have c3 : ∀ σ H, C2 σ H → ∃ s, σ[4]? = some (some (.str s)) ∧ GT 13 s := fun σ H h => by rw [e2] at h; exact h.2.1
    have n0 : ∀ σ H (Q : Option Int → Hp → Prop), C2 σ H → (∀ i, Q i H) → tNoPart σ H Q := fun σ H Q _ q => q none
    have n5 : ∀ σ H (Q : Option Int → Hp → Prop), C2 σ H → (∀ i, Q i H) → tPart (tVar 5) σ H Q := fun σ H Q h q => by
      rw [e2] at h
      obtain ⟨_, _, i, e⟩ := h
      exact ⟨_, e, _, rfl, q _⟩
    refine ⟨_, PSs.nox (pss_cons (ps_set (i := 1) scNn.nd rfl (.inl rfl) (pe_call GS hr (by rfl) gS FS.kp bS .nil pass0 (pa_cons (pv 0) (pa_cons (pe_lst (t := tTs C0 12 1) (by repeat' first | exact pts_nil' | refine pts_cons (pt_lit (n := 1)) ?_)) pa_nil))))
      (pss_cons (ps_set (i := 2) scNn.nd rfl (.inr rfl) (pe_lst (t := tTs C1 10 13) (by repeat' first | exact pts_nil' | refine pts_cons (pt_lit (n := 13)) ?_ | refine pts_cons (pt_add (n := 3) (m := 1) pt_lit (pt_nm 1 c1)) ?_ | refine pts_cons (pt_add (n := 1) (m := 3) (pt_nm 1 c1) pt_lit) ?_ | refine pts_cons (pt_add (n := 12) (m := 1) pt_12 (pt_nm 1 c1)) ?_)))
      (pss_cons (ps_set (i := 2) scNn.nd rfl (.inr rfl) (pe_op op_cat (pe_lc (own := [("turn", 6)]) (g := gName 6) (tt := tYes) (te := tCall (spSome K) [] (fun _ _ _ => False) (tCons (tVar 0) (tCons (tVar 2) tNil))) rfl scNn.nd (pi_range1 (by rfl) mr (pa_cons pe_int pa_nil)) (blkOk_by (N := nmNn) (sc := defScope (topS i_law_near_names)) (by decide +kernel))
          (fun _ _ _ _ _ => pg_name (i := 6) scNn.nd rfl (Or.inl rfl)) (fun _ _ _ _ _ => pts_nil) (fun _ _ _ _ _ => pe_call GS hr (by rfl) gS FS.kp bS .nil pass0 (pa_cons (pv 0) (pa_cons (pv 2) pa_nil)))) (pe_lst (pa_cons (pv 1) pa_nil))))
      (pss_cons (ps_set (i := 3) scNn.nd rfl (.inr rfl) (pe_callTy (call_listS rfl) (by rfl) mL (by decide +kernel) (pa_cons pe_str pa_nil)))
      (pss_cons (ps_set (i := 4) scNn.nd rfl (.inl rfl) (pe_call GS hr (by rfl) gS FS.kp bS .nil pass0 (pa_cons (pv 0) (pa_cons (pv 3) pa_nil))))
      (pss_cons (ps_set (i := 4) scNn.nd rfl (.inl rfl) (pe_op op_add_str (pv 4) (pe_join pe_str (pe_lc (own := [("turn", 6)]) (g := gName 6) (tt := tYes)
          (te := tCall (spSome K) [] (fun _ _ _ => False) (tCons (tVar 0) (tCons (tOp rCat (tVar 3) (tCB (fun xs H Q => ∃ x, xs = [.str x] ∧ x.cps.size ≤ sizeLine ∧ ∀ l, H l = none → Q (.ref l) (upd H l (.lst (signsV x)))) (tCons (tC (.str "0123456789")) tNil))) tNil))) rfl scNn.nd
          (pi_range1 (by rfl) mr (pa_cons (pe_call GT1 r1 (by rfl) gT FT.kp bT .nil pass0 (pa_cons (pv 0) (pa_cons pe_int pa_nil))) pa_nil)) (blkOk_by (N := nmNn) (sc := defScope (topS i_law_near_names)) (by decide +kernel))
          (fun _ _ _ _ _ => pg_name (i := 6) scNn.nd rfl (Or.inl rfl)) (fun _ _ _ _ _ => pts_nil) (fun _ _ _ _ _ => pe_call GS hr (by rfl) gS FS.kp bS .nil pass0 (pa_cons (pv 0) (pa_cons (pe_op op_cat (pv 3) (pe_callTy (call_listS rfl) (by rfl) mL (by decide +kernel) (pa_cons pe_str pa_nil))) pa_nil)))))))
      (pss_cons (ps_set (i := 5) scNn.nd rfl (.inl rfl) (pe_call GT1 r1 (by rfl) gT FT.kp bT .nil pass0 (pa_cons (pv 0) (pa_cons (pe_op op_add (pe_callB call_len_str (by rfl) ml PySem.boot_len (pa_cons (pv 4) pa_nil)) pe_int) pa_nil))))
      (pss_one (ps_ret (pe_op op_cat (pe_op op_cat (pv 2) (pe_lst (t := tTs C2 2 30) (pts_cons (pt_nm (n := 13) 4 c3) (pts_cons (pt_add (pt_add (pt_cut (pt_nm (n := 13) 4 c3) (by decide) po_none (po_some (pv 5)) n0 n5) (pt_nm (n := 1) 1 c2)) (pt_cut (pt_nm (n := 13) 4 c3) (by decide) (po_some (pv 5)) po_none n5 n0)) pts_nil')))) (pv 3))))))))))), ?_⟩
    refine ⟨.ref b, rfl, by rw [e0]; trivial, fun s1 l1 g1 => ⟨few_line (by rw [List.length_map]; omega), fun p1 hp1 => ?_⟩⟩
    have d1 : Dr b H (upd H p1 (.lst (s1.map .str))) := Dr.new hB hp1
    refine ⟨b, p1, _, rfl, d1.bag, .inl ⟨.inl (.inl upd_same), hB.ne hp1⟩, by rw [List.length_map]; omega, by rw [List.length_map]; omega, fun v1 H1 hv1 k1 b1 => ?_⟩
    obtain ⟨sg, ms, rfl⟩ := str_mem hv1
    have gs := g1 sg ms
    have d1 := d1.trans ⟨k1, b1⟩
    refine ⟨by rw [e1]; exact ⟨sg, rfl, gs⟩, fun s2 l2 g2 => ⟨few_line (by rw [List.length_map]; omega), fun p2 hp2 => ?_⟩⟩
    have d2 := d1.trans (Dr.new (o := .lst (s2.map .str)) d1.bag hp2)
    have n2 := d1.bag.ne hp2
    have h2 : (upd H1 p2 (.lst (s2.map .str))) p2 = some (.lst (s2.map .str)) := upd_same
    generalize upd H1 p2 (.lst (s2.map .str)) = H2 at d2 h2 ⊢
    refine ⟨4, rfl, by decide, by decide, fun D hD => lc_range (lo := 0) (n := (4 : Int).toNat) (fun i H' => Dr b H2 H' ∧ ∃ acc : List Str, acc.length = i ∧ (∀ s ∈ acc, GT 13 s) ∧ H' D = some (.lst (acc.map .str)))
      ⟨Dr.new d2.bag hD, [], rfl, fun _ z => (by cases z), upd_same⟩ ?_ ?_⟩
    · rintro i H3 hi ⟨d3, acc, la, ga, hD3⟩
      have nD := d2.bag.ne hD
      refine ⟨rfl, .ref b, rfl, .ref p2, rfl, b, p2, _, rfl, d3.bag, .inl ⟨.inl (.inl (d3.kp _ _ n2 h2)), n2⟩, by rw [List.length_map]; omega, by rw [List.length_map]; omega, fun v H4 hv k4 b4 => ?_⟩
      obtain ⟨x, mx, rfl⟩ := str_mem hv
      have d4 := d3.trans ⟨k4, b4⟩
      have hi : i < 4 := hi
      refine ⟨_, k4 _ _ nD hD3, fewer (by rw [List.length_map]; omega), d4.wr hD, acc ++ [x], by rw [List.length_append, la]; rfl, fun s m => ?_, by rw [upd_same, List.map_append]; rfl⟩
      rcases List.mem_append.mp m with m | m
      · exact ga s m
      · rw [List.mem_singleton.mp m]
        exact g2 x mx
    rintro H3 ⟨d3, acc, la, ga, hD3⟩
    have la : acc.length = 4 := la
    refine ⟨.str sg, rfl, few_line (by simp), fun p3 hp3 => ?_⟩
    have nD3 : D ≠ p3 := ne_of_none hD3 hp3
    refine ⟨D, p3, _, _, rfl, rfl, by rw [upd_ne nD3]; exact hD3, upd_same, few_line (by rw [List.length_map]; simp; omega), fun p4 hp4 => ?_⟩
    have d4 := (d2.trans d3).trans ((Dr.new (o := .lst [V.str sg]) d3.bag hp3).trans (Dr.new (o := .lst (acc.map .str ++ [V.str sg])) (Dr.new d3.bag hp3).bag hp4))
    have n4 := (Dr.new (o := .lst [V.str sg]) d3.bag hp3).bag.ne hp4
    have h4 : (upd (upd H3 p3 (.lst [V.str sg])) p4 (.lst (acc.map .str ++ [V.str sg]))) p4 = some (.lst ((acc ++ [sg]).map .str)) := by
      rw [upd_same, List.map_append]
      rfl
    generalize upd (upd H3 p3 (.lst [V.str sg])) p4 (.lst (acc.map .str ++ [V.str sg])) = H4 at d4 h4 ⊢
    refine ⟨letters, rfl, few_line (by decide +kernel), fun p5 hp5 => ?_⟩
    rw [sgs_eq]
    have d5 := d4.trans (Dr.new (o := .lst ((sgs letters).map .str)) d4.bag hp5)
    have n5' := d4.bag.ne hp5
    have h5 : (upd H4 p5 (.lst ((sgs letters).map .str))) p5 = some (.lst ((sgs letters).map .str)) := upd_same
    have h45 : (upd H4 p5 (.lst ((sgs letters).map .str))) p4 = some (.lst ((acc ++ [sg]).map .str)) := same_new hp5 _ _ h4
    generalize upd H4 p5 (.lst ((sgs letters).map .str)) = H5 at d5 h5 h45 ⊢
    obtain ⟨ll, gl⟩ := gt_letters
    refine ⟨.ref b, rfl, .ref p5, rfl, b, p5, _, rfl, d5.bag, .inl ⟨.inl (.inl h5), n5'⟩, by rw [List.length_map, ll]; decide, by rw [List.length_map, ll]; decide, fun v6 H6 hv6 k6 b6 => ?_⟩
    obtain ⟨nm, mn, rfl⟩ := str_mem hv6
    have gn := gt_by (gl nm mn)
    have d6 := d5.trans ⟨k6, b6⟩
    have h56 := k6 _ _ n5' h5
    have h46 := k6 _ _ n4 h45
    refine ⟨.str nm, rfl, ⟨_, rfl⟩, .ref b, rfl, b, 12, rfl, d6.bag, by decide, by decide, fun t7 H7 t0 t1 k7 b7 => ?_⟩
    have d7 := d6.trans ⟨k7, b7⟩
    have h57 := k7 _ _ n5' h56
    have h47 := k7 _ _ n4 h46
    refine ⟨t7, rfl, by omega, by omega, fun D2 hD2 => lc_range (lo := 0) (n := t7.toNat) (fun i H' => Dr b H7 H' ∧ ∃ acc : List Str, acc.length = i ∧ (∀ s ∈ acc, GT 1 s) ∧ H' D2 = some (.lst (acc.map .str)))
      ⟨Dr.new d7.bag hD2, [], rfl, fun _ z => (by cases z), upd_same⟩ ?_ ?_⟩
    · rintro i H8 hi ⟨d8, ac, lc, gc, hD8⟩
      have nD := d7.bag.ne hD2
      refine ⟨rfl, .ref b, rfl, .ref p5, rfl, "0123456789", rfl, few_line (by decide +kernel), fun q1 hq1 => ?_⟩
      rw [sgs_eq]
      have h58 := d8.kp _ _ n5' h57
      have nq : p5 ≠ q1 := ne_of_none h58 hq1
      obtain ⟨ld, gd⟩ := gt_digits
      refine ⟨p5, q1, _, _, rfl, rfl, by rw [upd_ne nq]; exact h58, upd_same, few_line (by rw [List.length_map, List.length_map, ll, ld]; decide), fun q2 hq2 => ?_⟩
      have dq1 := Dr.new (o := .lst ((sgs "0123456789").map .str)) d8.bag hq1
      have dq2 := Dr.new (o := .lst ((sgs letters).map .str ++ (sgs "0123456789").map .str)) dq1.bag hq2
      have nq2 := dq1.bag.ne hq2
      refine ⟨b, q2, _, rfl, dq2.bag, .inl ⟨.inl (.inl upd_same), nq2⟩, by rw [List.length_append, List.length_map, ll]; omega, by rw [List.length_append, List.length_map, List.length_map, ll, ld]; decide, fun v H9 hv k9 b9 => ?_⟩
      have gx : ∃ x, v = .str x ∧ GT 1 x := by
        rcases List.mem_append.mp hv with m | m
        · obtain ⟨x, mx, rfl⟩ := str_mem m
          exact ⟨x, rfl, gt_by (gl x mx)⟩
        · obtain ⟨x, mx, rfl⟩ := str_mem m
          exact ⟨x, rfl, gt_by (gd x mx)⟩
      obtain ⟨x, rfl, gx⟩ := gx
      have d9 := (dq1.trans dq2).trans ⟨k9, b9⟩
      have hi : i < t7.toNat := hi
      refine ⟨_, d9.kp _ _ nD hD8, fewer (by rw [List.length_map]; omega), (d8.trans d9).wr hD2, ac ++ [x], by rw [List.length_append, lc]; rfl, fun s m => ?_, by rw [upd_same, List.map_append]; rfl⟩
      rcases List.mem_append.mp m with m | m
      · exact gc s m
      · rw [List.mem_singleton.mp m]
        exact gx
    rintro H8 ⟨d8, ac, lc, gc, hD8⟩
    have ga2 := GT.join (k := 12) gc (by omega)
    have gN : GT 13 (nm ++ Txt.join (⟨#[]⟩ : Str) ac) := (gn.add ga2).mono (by decide)
    have lN : (nm ++ Txt.join (⟨#[]⟩ : Str) ac).length ≤ 13 := by
      have e1 : (nm ++ Txt.join (⟨#[]⟩ : Str) ac).length = (nm ++ Txt.join (⟨#[]⟩ : Str) ac).cps.toList.length := by simp [Str.length]
      rw [e1]
      exact gN.1
    have e9 : (nm ++ Txt.join (⟨#[]⟩ : Str) ac).length = nm.length + (Txt.join (⟨#[]⟩ : Str) ac).length := by
      show ((nm.cps ++ (Txt.join (⟨#[]⟩ : Str) ac).cps)).size = _
      rw [Array.size_append]
      rfl
    have sm := sum_le gc
    have emp : ("" : Str) = (⟨#[]⟩ : Str) := by decide +kernel
    refine ⟨"", D2, ac, rfl, rfl, .inl (.inl (.inl hD8)), ?_, nm, _, rfl, rfl, few_line ?_, ?_⟩
    · rw [emp]
      show _ + ac.length * 0 ≤ _
      omega
    · rw [emp]
      omega
    rw [emp]
    have dd := d7.trans d8
    have h58 := d8.kp _ _ n5' h57
    have h48 := d8.kp _ _ n4 h47
    generalize nm ++ Txt.join (⟨#[]⟩ : Str) ac = N at gN lN ⊢
    refine ⟨.ref b, rfl, .str N, rfl, N, rfl, few_line (by omega), _, _, rfl, rfl, b, _, rfl, dd.bag, by omega, by omega, fun t9 H9 v0 v1 k9 b9 => ?_⟩
    have d9 := dd.trans ⟨k9, b9⟩
    have h59 := k9 _ _ n5' h58
    have h49 := k9 _ _ n4 h48
    refine ⟨.ref p4, rfl, by rw [e2]; exact ⟨⟨sg, rfl, gs⟩, ⟨N, rfl, gN⟩, t9, rfl⟩, fun s3 l3 g3 => ⟨few_line (by rw [List.length_map]; omega), fun q1 hq1 => ?_⟩⟩
    have x1 : p4 ≠ q1 := ne_of_none h49 hq1
    have l4 : (acc ++ [sg]).length = 5 := by rw [List.length_append, la]; rfl
    refine ⟨p4, q1, _, _, rfl, rfl, by rw [upd_ne x1]; exact h49, upd_same, few_line (by rw [List.length_map, List.length_map, l4]; omega), fun q2 hq2 => ?_⟩
    have s5 := same_new (o := .lst (s3.map .str)) hq1
    have s6 := same_new (o := .lst ((acc ++ [sg]).map .str ++ s3.map .str)) hq2
    have x2 : p5 ≠ q2 := ne_of_none (s5 _ _ h59) hq2
    refine ⟨.ref p5, rfl, q2, p5, _, _, rfl, rfl, upd_same, s6 _ _ (s5 _ _ h59), few_line (by rw [List.length_append, List.length_map, List.length_map, List.length_map, l4, ll]; omega), fun q3 hq3 => ?_⟩
    have d10 := (d9.trans (Dr.new (o := .lst (s3.map .str)) d9.bag hq1)).trans (Dr.new (o := .lst ((acc ++ [sg]).map .str ++ s3.map .str)) (Dr.new d9.bag hq1).bag hq2)
    refine hQ q3 ((acc ++ [sg]) ++ s3 ++ sgs letters) _ (d10.free hq3) ?_ ?_ ?_ (d10.trans (Dr.new d10.bag hq3))
    · rw [upd_same]
      simp only [List.map_append]
    · rw [List.length_append, List.length_append, l4, l3, ll]
    · intro s m
      rcases List.mem_append.mp m with m | m
      · rcases List.mem_append.mp m with m | m
        · rcases List.mem_append.mp m with m | m
          · exact (ga s m).mono (by decide)
          · rw [List.mem_singleton.mp m]
            exact gs.mono (by decide)
        · exact (g3 s m).mono (by decide)
      · exact (gt_by (gl s m)).mono (by decide)
end
end K01

namespace K01
open PySem PySem.Spec PyProof.Rows L2 LamX NdefX Ly
abbrev nmL : List Str := ["script", "bag", "turn", "world", "lots", "told", "things", "thing", "said", "is_one", "found", "due", "more"]
theorem scLaw : FnScope nmL ["script"] (defScope (topS i_law)) := ⟨rfl, rfl, rfl, by decide +kernel, rfl, by decide +kernel, by decide +kernel⟩
def forBody : Stmt → List Stmt
  | .For _ _ b _ _ => b
  | _ => []
def bodyTurn : List Stmt := forBody ((defBody (topS i_law)).getD 1 (.Pass ⟨0, 0, 0, 0⟩))
def bodyThing : List Stmt := forBody (bodyTurn.getD 6 (.Pass ⟨0, 0, 0, 0⟩))
/-- what a thing may be -/
structure OkT (d : PyData) : Prop where
  show_ : d.showable = true
  len : d.shown.length ≤ 1100000
  deep : d.depth ≤ 20
  short : shortD d = true
structure TabsK (K : PySem.W.Frag) (base : Heap) (mg : Str → Option Value) (T : List (Addr × Str)) : Prop where
  one : ∃ P, TabOf base mg (codeA K (He.ga K "is_lot")) P T "is_lot.<locals>.<lambda>"
  two : ∃ P, TabOf base mg (codeA K (He.ga K "_law_is_lot")) P T "_law_is_lot.<locals>.<lambda>"
section
variable {P : Program} {w : World} {K : PySem.W.Frag} {mg : Str → Option Value} {base : Heap} {f : Addr} {A : Around} {outer : List Env} {s : Shared} {H0 : Hp} {E : XK} {cd : Value} {T : List (Addr × Str)}
theorem shown_pair {W : Wld} {d : PyData} (g : GoodV W) (ok : OkT d) : (PyData.list [W.d, d]).showable = true ∧ (PyData.list [W.d, d]).shown.length ≤ sizeLine ∧ (PyData.list [W.d, d]).depth ≤ 60 := by
  have gd := g.okd
  refine ⟨?_, ?_, ?_⟩
  · simp only [PyData.showable, PyData.showableAll, gd.show_, ok.show_, Bool.and_self]
  · have := shownL_le (ds := [W.d, d]) (B := 1100000) fun e m => by
      simp only [List.mem_cons, List.not_mem_nil, or_false] at m
      rcases m with rfl | rfl
      · exact gd.len
      · exact ok.len
    refine Nat.le_trans this ?_
    rw [sizeLine_eq]
    show 2 * (1100000 + 2) + 3 ≤ 16777216
    decide
  · simp only [PyData.depth, PyData.depthAll]
    have := gd.deep
    have := ok.deep
    omega
/-- one thing -/
theorem blkThing (T0 : Txt K mg) (TK : TabsK K base mg T) (hG : A.guards = some []) (hr : Room 6 (A.deeper (envOfC "law" (defScope (topS i_law)) s.heap.objs.size f cd))) :
    ∃ t, PSs (cxOf CX0 P w K mg base nmL "law" (defScope (topS i_law)) f cd A outer s H0 E).nox bodyThing t ∧
      ∀ (D : Ends) (H : Hp) (p lt : Addr) (W : Wld) (tl : List (Addr × List Str)) (v : V) (d : PyData) (z0 z1 z2 z4 z6 z8 z9 z10 z11 z12 : Option V),
        WAt K H p W → GoodV W → H lt = some (.lst (refsOf tl)) → Tups K H tl → (∀ q ∈ tl, Oks q.2) → (∀ r, r ∈ tl.map (·.2) ↔ Meets (W.told ++ [W.tiles] ++ W.tiles.map fun t => [t]) r) → Dq K H v d → OkT d → Tabs T H →
        (∀ y8 y9 y10 y11 H', ExtN H H' → Tabs T H' → D.nx [z0, z1, z2, some (.ref p), z4, some (.ref lt), z6, some v, y8, y9, y10, y11, z12] H') →
        t D [z0, z1, z2, some (.ref p), z4, some (.ref lt), z6, some v, z8, z9, z10, z11, z12] H := by
  obtain ⟨P1, tb1⟩ := TK.one
  obtain ⟨P2, tb2⟩ := TK.two
  obtain ⟨_, FIi⟩ := T0.fun_ "is_integer" i_is_integer (by decide +kernel)
  obtain ⟨_, FIm⟩ := T0.fun_ "is_name" i_is_name (by decide +kernel)
  obtain ⟨_, FIl⟩ := T0.fun_ "is_lot" i_is_lot (by decide +kernel)
  obtain ⟨_, FTl⟩ := T0.fun_ "is_told" i_is_told (by decide +kernel)
  obtain ⟨_, FIs⟩ := T0.fun_ "itself" i_itself (by decide +kernel)
  obtain ⟨_, FFb⟩ := T0.fun_ "first_bad" i_first_bad (by decide +kernel)
  obtain ⟨_, FLi⟩ := T0.fun_ "_law_is_int" i_law_is_int (by decide +kernel)
  obtain ⟨_, FLn⟩ := T0.fun_ "_law_is_name" i_law_is_name (by decide +kernel)
  obtain ⟨_, FLs⟩ := T0.fun_ "_law_itself" i_law_itself (by decide +kernel)
  obtain ⟨_, FLf⟩ := T0.fun_ "_law_first_fault" i_law_first_fault (by decide +kernel)
  obtain ⟨_, FLl⟩ := T0.fun_ "_law_is_lot" i_law_is_lot (by decide +kernel)
  obtain ⟨_, FA⟩ := T0.fun_ "_law_alike" i_law_alike (by decide +kernel)
  have gIi := T0.glo "is_integer" (by decide +kernel)
  have gIm := T0.glo "is_name" (by decide +kernel)
  have gIl := T0.glo "is_lot" (by decide +kernel)
  have gTl := T0.glo "is_told" (by decide +kernel)
  have gIs := T0.glo "itself" (by decide +kernel)
  have gFb := T0.glo "first_bad" (by decide +kernel)
  have gLi := T0.glo "_law_is_int" (by decide +kernel)
  have gLn := T0.glo "_law_is_name" (by decide +kernel)
  have gLs := T0.glo "_law_itself" (by decide +kernel)
  have gLf := T0.glo "_law_first_fault" (by decide +kernel)
  have gLl := T0.glo "_law_is_lot" (by decide +kernel)
  have gA := T0.glo "_law_alike" (by decide +kernel)
  have me := T0.free "enumerate" (by decide +kernel)
  have mi := T0.free "isinstance" (by decide +kernel)
  have mt := T0.free "tuple" (by decide +kernel)
  have ms := T0.free "str" (by decide +kernel)
  have mn := T0.free "int" (by decide +kernel)
  have mb := T0.free "bool" (by decide +kernel)
  have ml := T0.free "len" (by decide +kernel)
  have mA := T0.free "all" (by decide +kernel)
  have mN := T0.free "any" (by decide +kernel)
  have mr := T0.free "repr" (by decide +kernel)
  obtain ⟨t1, k1⟩ := T0.str_ "LETTERS" letters List.mem_cons_self
  obtain ⟨t2, k2⟩ := T0.str_ "NAME_SIGNS" signs (List.mem_cons_of_mem _ List.mem_cons_self)
  obtain ⟨t3, k3⟩ := T0.int_ "LONGEST_NAME" 12 (List.mem_cons_of_mem _ (List.mem_cons_of_mem _ List.mem_cons_self))
  have hS := T0.sys
  have GIi : FnOk P w K mg base CX0 1 _ _ ["thing"] (spInt K) := ok_Ii FIi mi mn mb
  have bIi : Binds K _ ["thing"] [] := FIi.bindsN fun _ _ _ _ _ _ us hl => match us, hl with | [_], _ => rfl
  have GIm : FnOk P w K mg base CX0 1 _ _ ["thing"] (spNm K) := ok_Im FIm mi ms ml mA k1 k2 k3
  have bIm : Binds K _ ["thing"] [] := FIm.bindsN fun _ _ _ _ _ _ us hl => match us, hl with | [_], _ => rfl
  have GIl : FnOk P w K mg base CX0 4 _ _ ["world", "thing"] (spIl K T) := ok_Il FIl FFb FIs gFb gIs me mi mt ml hS tb1
  have bIl : Binds K _ ["world", "thing"] [] := FIl.bindsN fun _ _ _ _ _ _ us hl => match us, hl with | [_, _], _ => rfl
  have GTl : FnOk P w K mg base CX0 5 _ _ ["world", "thing"] (spTl K T) := ok_Tl FTl FIl gIl FFb FIs gFb gIs me mi mt ml mA mN hS tb1
  have bTl : Binds K _ ["world", "thing"] [] := FTl.bindsN fun _ _ _ _ _ _ us hl => match us, hl with | [_, _], _ => rfl
  have GLi : FnOk P w K mg base CX0 1 _ _ ["thing"] (spInt K) := ok_Li FLi mi mn mb
  have bLi : Binds K _ ["thing"] [] := FLi.bindsN fun _ _ _ _ _ _ us hl => match us, hl with | [_], _ => rfl
  have GLn : FnOk P w K mg base CX0 1 _ _ ["thing"] (spNm K) := ok_Ln FLn mi ms ml
  have bLn : Binds K _ ["thing"] [] := FLn.bindsN fun _ _ _ _ _ _ us hl => match us, hl with | [_], _ => rfl
  have GLl : FnOk P w K mg base CX0 4 _ _ ["tiles", "thing"] (spLl K T) := ok_Ll FLl FLf FLs gLf gLs me mi mt ms hS tb2
  have bLl : Binds K _ ["tiles", "thing"] [] := FLl.bindsN fun _ _ _ _ _ _ us hl => match us, hl with | [_, _], _ => rfl
  have GA : FnG P w K mg base CX0 1 _ _ ["found", "due"] (spAlk K) := ok_alk FA mr hS
  have bA : Binds K _ ["found", "due"] [] := FA.bindsN fun _ _ _ _ _ _ us hl => match us, hl with | [_, _], _ => rfl
  have r1 : Room 1 _ := hr.mono (by decide)
  have r4 : Room 4 _ := hr.mono (by decide)
  have r5 : Room 5 _ := hr.mono (by decide)
  refine ⟨_, (pss_cons (ps_set (i := 8) scLaw.nd rfl (.inl rfl) (pe_callB (call_reprD hS hG hr) (by rfl) mr (by decide +kernel) (pa_cons (pe_lst (pa_cons (pv 3) (pa_cons (pv 7) pa_nil))) pa_nil)))
    (pss_cons (ps_set (i := 9) scLaw.nd rfl (.inl rfl) (pe_call GLl r4 (by rfl) gLl FLl.kp bLl .nil pass0 (pa_cons (pe_ix ix_tup (pv 3) pe_int (fun _ _ => rfl)) (pa_cons (pv 7) pa_nil))))
    (pss_cons (ps_set (i := 10) scLaw.nd rfl (.inl rfl) (pe_lst (pa_cons (pe_call GIi r1 (by rfl) gIi FIi.kp bIi .nil pass0 (pa_cons (pv 7) pa_nil)) (pa_cons (pe_call GIm r1 (by rfl) gIm FIm.kp bIm .nil pass0 (pa_cons (pv 7) pa_nil))
      (pa_cons (pe_call GIl r4 (by rfl) gIl FIl.kp bIl .nil pass0 (pa_cons (pv 3) (pa_cons (pv 7) pa_nil))) (pa_cons (pe_call GTl r5 (by rfl) gTl FTl.kp bTl .nil pass0 (pa_cons (pv 3) (pa_cons (pv 7) pa_nil))) pa_nil))))))
    (pss_cons (ps_set (i := 11) scLaw.nd rfl (.inl rfl) (pe_lst (pa_cons (pe_call GLi r1 (by rfl) gLi FLi.kp bLi .nil pass0 (pa_cons (pv 7) pa_nil)) (pa_cons (pe_call GLn r1 (by rfl) gLn FLn.kp bLn .nil pass0 (pa_cons (pv 7) pa_nil))
      (pa_cons (pv 9) (pa_cons (pe_and (pv 9) (pe_one (pe_cmpR (op_inRowL (hu64 hr)) (pv 7) (pv 5) rfl))) pa_nil))))))
    (pss_one (ps_if (PW.pt (pw_or (pt_not (pt_val (pe_callG GA hG r1 (by rfl) gA FA.kp bA .nil pass0 (pa_cons (pv 10) (pa_cons (pv 11) pa_nil)))))
      (pw_or1 (pt_cmpR op_ne (pe_callB (call_reprD hS hG hr) (by rfl) mr (by decide +kernel) (pa_cons (pe_lst (pa_cons (pv 3) (pa_cons (pv 7) pa_nil))) pa_nil)) (pv 8) (nomark _))))) (pss_one (ps_ret pe_bl)) pss_nil)))))), ?_⟩
  intro D H p lt W tl v d z0 z1 z2 z4 z6 z8 z9 z10 z11 z12 hW gW hl tt ok4 mt' hd ok hT hN
  obtain ⟨c1, c2, c3⟩ := shown_pair gW ok
  obtain ⟨dd, edd⟩ : ∃ dd, dd = PyData.list [W.d, d] := ⟨_, rfl⟩
  rw [← edd] at c1 c2 c3
  have key : ∀ {H' : Hp} {q : Addr}, WAt K H' p W → Dq K H' v d → H' q = some (.lst [.ref p, v]) → Dq K H' (.ref q) dd := fun a b c => by
    rw [edd]
    exact .lst (.inl (.inl c)) (.cons a.dq (.cons b .nil))
  have sh : ∀ s, d = .str s → s.cps.size ≤ 1000 := fun s e => by
    have z := ok.short
    rw [e] at z
    exact of_decide_eq_true z
  obtain ⟨v0, v1, v2, v3, v4, wx⟩ := id hW
  obtain ⟨a0, rfl, ha0⟩ := row_of wx.tiles
  obtain ⟨a4, xs4, rfl, h4, da4⟩ := wx.told.tup_of
  obtain ⟨ks, rfl, tk, ek⟩ := rows_of da4
  have hsq := wx.sq
  have subK : ∀ q ∈ ks, q.2.Sublist W.tiles := fun q m => (gW.toldSub (by
    rw [← ek]
    exact List.mem_map_of_mem (f := Prod.snd) m)).2
  have lenK : ks.length ≤ 20 := by
    have e := congrArg List.length ek
    rw [List.length_map] at e
    have := gW.toldFew
    omega
  refine ⟨.ref p, rfl, v, rfl, few_line (by simp), fun q1 hq1 => ?_⟩
  have s1 : Same H (upd H q1 (.lst [.ref p, v])) := same_new hq1
  refine ⟨q1, dd, rfl, key (hW.mono s1) (hd.mono s1) upd_same, c1, c2, c3, ?_⟩
  obtain ⟨S, eS⟩ : ∃ S, S = dd.shown := ⟨_, rfl⟩
  rw [← eS]
  have x1 := Same.ext s1
  have T1 := hT.ext s1
  generalize upd H q1 (.lst [.ref p, v]) = H1 at x1 T1 ⊢
  refine ⟨.ref p, rfl, p, _, 0, .ref a0, rfl, rfl, seqT_ext x1 hsq, rfl, v, rfl, a0, W.tiles, v, d, rfl, seqT_ext x1 ha0, hd.ext x1, T1, fun H2 e2 T2 => ?_⟩
  have x2 := x1.trans e2
  refine ⟨v, rfl, v, d, rfl, hd.ext x2, v, rfl, v, d, rfl, hd.ext x2, sh, fun H3 s3 => ?_⟩
  have x3 := x2.trans (Same.ext s3)
  have T3 := T2.ext s3
  refine ⟨.ref p, rfl, v, rfl, p, a0, _, W.tiles, v, d, rfl, seqT_ext x3 hsq, seqT_ext x3 ha0, hd.ext x3, T3, fun H4 e4 T4 => ?_⟩
  have x4 := x3.trans e4
  refine ⟨.ref p, rfl, v, rfl, p, a0, a4, v1, v2, v3, W.tiles, ks, v, d, rfl, seqT_ext x4 hsq, seqT_ext x4 ha0, seqT_ext x4 h4, Tups.ext x4 tk, hd.ext x4, T4, gW.tileOnce, gW.tileAsc, gW.tileL, lenK, subK, fun b5 H5 e5 T5 hb5 => ?_⟩
  have x5 := x4.trans e5
  refine ⟨few_line (by simp), fun q2 hq2 => ?_⟩
  have s6 : Same H5 (upd H5 q2 (.lst [.bl (intB d), .bl (isName d), .bl (lotB W.tiles d), .bl b5])) := same_new hq2
  have f6 : (upd H5 q2 (.lst [.bl (intB d), .bl (isName d), .bl (lotB W.tiles d), .bl b5])) q2 = some (.lst [.bl (intB d), .bl (isName d), .bl (lotB W.tiles d), .bl b5]) := upd_same
  have x6 := x5.trans (Same.ext s6)
  have T6 := T5.ext s6
  generalize upd H5 q2 (.lst [.bl (intB d), .bl (isName d), .bl (lotB W.tiles d), .bl b5]) = H6 at x6 T6 f6 ⊢
  refine ⟨v, rfl, v, d, rfl, hd.ext x6, v, rfl, v, d, rfl, hd.ext x6, sh, fun H7 s7 => ?_⟩
  have x7 := x6.trans (Same.ext s7)
  have T7 := T6.ext s7
  have f7 := s7 _ _ f6
  have fin : ∀ (R : VK), (∀ H', Same H7 H' → R (.bl b5) H') → tAndV (tVar 9) (tOp (rInRowL K) (tVar 7) (tVar 5)) [z0, z1, z2, some (.ref p), z4, some (.ref lt), z6, some v, some (.str S), some (.bl (lotB W.tiles d)), some (.ref q2), z11, z12] H7 R := fun R hR => by
    refine ⟨.bl (lotB W.tiles d), rfl, _, rfl, ite2' (fun c => ?_) (fun c => ?_)⟩
    · obtain ⟨r, er, ne, sub⟩ := lotB_row gW.tileOnce gW.tileAsc c
      have eb : decide (r ∈ tl.map (·.2)) = b5 := by
        rw [Bool.eq_iff_iff, decide_eq_true_eq, hb5, mt' r, ← tld_meets gW.tileOnce sub ne, ek]
        constructor
        · exact fun z => ⟨c, r, er, z⟩
        · rintro ⟨_, r', e', z⟩
          rw [row_inj (er.symm.trans e')]
          exact z
      refine ⟨v, rfl, .ref lt, rfl, r, tl.map (·.2), ?_, .lst (.inl (.inl (x7 _ _ hl fun ps z => by cases z))) (rows_is (Tups.ext x7 tt)), fun y m => gW.tileOk y (sub.subset m), fun q m => ?_, ?_⟩
      · rw [← er]
        exact hd.ext x7
      · obtain ⟨q', mq, rfl⟩ := List.mem_map.mp m
        exact ok4 q' mq
      · rw [eb]
        exact hR H7 (Same.refl _)
    · have eb : b5 = false := by
        cases eb : b5 with
        | false => rfl
        | true => rw [hb5.mp eb |>.1] at c; cases c
      rw [eb] at hR
      exact hR H7 (Same.refl _)
  refine ⟨.bl (lotB W.tiles d), rfl, fin _ fun H8 s8 => ⟨few_line (by simp), fun q3 hq3 => ?_⟩⟩
  have f8 := s8 _ _ f7
  have s9 := same_new (o := .lst [.bl (intB d), .bl (isName d), .bl (lotB W.tiles d), .bl b5]) hq3
  have x9 := (x7.trans (Same.ext s8)).trans (Same.ext s9)
  have T9 := (T7.ext s8).ext s9
  have g9 : (upd H8 q3 (.lst [.bl (intB d), .bl (isName d), .bl (lotB W.tiles d), .bl b5])) q3 = some (.lst [.bl (intB d), .bl (isName d), .bl (lotB W.tiles d), .bl b5]) := upd_same
  have f9 := s9 _ _ f8
  have dqs : ∀ {H' : Hp} {q : Addr}, H' q = some (.lst [.bl (intB d), .bl (isName d), .bl (lotB W.tiles d), .bl b5]) → Dq K H' (.ref q) (.list [.bool (intB d), .bool (isName d), .bool (lotB W.tiles d), .bool b5]) := fun h => .lst (.inl (.inl h)) (.cons (.bl _) (.cons (.bl _) (.cons (.bl _) (.cons (.bl _) .nil))))
  have okb : OkD 100000 6 (.list [.bool (intB d), .bool (isName d), .bool (lotB W.tiles d), .bool b5]) := OkD.list (B := 30) (n := 0) (k := 4) (fun e m => by
    simp only [List.mem_cons, List.not_mem_nil, or_false] at m
    rcases m with rfl | rfl | rfl | rfl <;> exact okd_bool _) (by simp) (by decide) (by decide)
  generalize upd H8 q3 (.lst [.bl (intB d), .bl (isName d), .bl (lotB W.tiles d), .bl b5]) = H9 at x9 T9 f9 g9 ⊢
  refine ⟨.ref q2, rfl, .ref q3, rfl, q2, q3, _, rfl, dqs f9, dqs g9, okb, true, rfl, iteF ?_⟩
  refine ⟨.ref p, rfl, v, rfl, few_line (by simp), fun q4 hq4 => ?_⟩
  have s10 := same_new (o := .lst [.ref p, v]) hq4
  refine ⟨q4, dd, rfl, key (hW.ext (x9.trans (Same.ext s10))) (hd.ext (x9.trans (Same.ext s10))) upd_same, c1, c2, c3, .str S, rfl, rfl, _, rfl, ?_⟩
  rw [← eS, decide_eq_true rfl]
  exact iteF (hN _ _ _ _ _ (x9.trans (Same.ext s10)) (T9.ext s10))
end
end K01

namespace K01
open PySem PySem.Spec PyProof.Rows L2 Ly
section
variable {P : Program} {w : World} {K : PySem.W.Frag} {mg : Str → Option Value} {base : Heap} {f fT fS : Addr} {fd fdT fdS : FuncData}
theorem scMixed : FnScope ["bag", "things", "found", "thing"] ["bag", "things"] (defScope (topS i_law_mixed)) := ⟨rfl, rfl, rfl, by decide +kernel, rfl, by decide +kernel, by decide +kernel⟩
/-- the things in another order -/
def spMixed (K : PySem.W.Frag) : Sp := fun vs H Q _ => ∃ (b t : Addr) (xs : List V), vs = [.ref b, .ref t] ∧ IsBag H b ∧ SqL K H t xs ∧ t ≠ b ∧ xs.length ≤ 1000 ∧
  ∀ p ys H', ys.Perm xs → H p = none → H' p = some (.lst ys) → Dr b H H' → Q (.ref p) H'
theorem ok_mixed (F : FnP K "_law_mixed" i_law_mixed f fd) (FT : FnP K "_law_take" i_law_take fT fdT) (gT : mg "_law_take" = some (.ref fT)) (mi : mg "int" = none) (ml : mg "len" = none) : FnOk P w K mg base CX0 2 f fd ["bag", "things"] (spMixed K) := by
  have GT : FnOk P w K mg base CX0 1 fT fdT ["bag", "many"] spTake := ok_take FT mi
  have bT : Binds K fdT ["bag", "many"] [] := FT.bindsN fun _ _ _ _ _ _ us hl => match us, hl with | [_, _], _ => rfl
  refine F.ok scMixed (fun vs H Q E h => ?_) (fun cd A outer s H vs Q E hr h => ?_)
  · obtain ⟨b, t, xs, rfl, _⟩ := h
    rfl
  · obtain ⟨b, t, xs, rfl, hB, hs, nt, h1, hQ⟩ := h
    refine ⟨_, PSs.nox (pss_cons (ps_set (i := 2) scMixed.nd rfl (.inl rfl) (pe_lst pa_nil)) (pss_cons (ps_for PassesOwn.never rfl (pi_list (pv 1)) (pg_name (i := 3) scMixed.nd rfl (.inl rfl))
      (pss_one (ps_expr (pe_bm PySem.F.plainAttrs_list PySem.F.slot_list_insert PySem.F.type_list_insert mt_insert (pv 2)
        (pa_cons (pe_call GT hr (by rfl) gT FT.kp bT .nil pass0 (pa_cons (pv 0) (pa_cons (pe_op op_add (pe_callB call_len_seq (by rfl) ml PySem.boot_len (pa_cons (pv 2) pa_nil)) pe_int) pa_nil))) (pa_cons (pv 3) pa_nil))))))
      (pss_one (ps_ret (pv 2))))), ?_⟩
    refine ⟨few_line (by simp), fun p hp => ⟨.ref t, rfl, t, rfl, ⟨_, (same_new hp).seq hs⟩, for_list (K := K) (xs := xs)
      (fun i σ H' => (∃ y3, σ = [some (.ref b), some (.ref t), some (.ref p), y3]) ∧ ∃ ys, ys.Perm (xs.take i) ∧ H' p = some (.lst ys) ∧ Dr b H H')
      ⟨⟨_, rfl⟩, [], .nil, upd_same, Dr.new hB hp⟩ (fun i σ H' _ h' => ?_) ?_ ?_⟩⟩
    · obtain ⟨_, ys, _, _, k⟩ := h'
      exact k.seqL nt hs
    · rintro i x σ H1 hx ⟨⟨y3, rfl⟩, ys, pm, hp1, k1⟩
      have len : ys.length ≤ 1000 := by
        rw [pm.length_eq, List.length_take]
        omega
      refine ⟨.ref p, rfl, .inl ⟨rfl, _, .inl (.inl hp1)⟩, .ref b, rfl, .ref p, rfl, p, ys, rfl, .inl (.inl (.inl hp1)), _, _, rfl, rfl, b, (ys.length : Int) + 1, rfl, k1.bag, by omega, by omega, fun v H2 v0 v1 k2 b2 => ?_⟩
      have hp2 := k2 _ _ (hB.ne hp) hp1
      refine ⟨x, rfl, p, ys, v, x, rfl, rfl, hp2, fewer (by omega), v0, by omega, ⟨_, rfl⟩, _, ?_, upd_same, (k1.trans ⟨k2, b2⟩).wr hp⟩
      rw [take_step hx, List.append_assoc]
      refine (List.perm_append_comm_assoc _ _ _).trans ?_
      rw [List.take_append_drop]
      exact (List.perm_append_comm (l₁ := [x])).trans (pm.append_right [x])
    · rintro σ H1 ⟨⟨y3, rfl⟩, ys, pm, hp1, k1⟩
      rw [List.take_length] at pm
      exact ⟨.ref p, rfl, hQ p ys H1 pm hp hp1 k1⟩
end
end K01

namespace K01
open PySem PySem.Spec PyProof.Rows L2 Ly
section
variable {P : Program} {w : World} {K : PySem.W.Frag} {mg : Str → Option Value} {base : Heap} {f fT fS : Addr} {fd fdT fdS : FuncData}
theorem scLots : FnScope ["tiles", "found", "tile", "lot"] ["tiles"] (defScope (topS i_law_lots)) := ⟨rfl, rfl, rfl, by decide +kernel, rfl, by decide +kernel, by decide +kernel⟩
def spLots (K : PySem.W.Frag) : Sp := fun vs H Q _ => ∃ (a : Addr) (ts : List Str), vs = [.ref a] ∧ SqT K H a (ts.map .str) ∧ ts.length ≤ 6 ∧ Oks ts ∧
  ∀ p ks H', H p = none → H' p = some (.lst (refsOf ks)) → Tups K H' ks → Same H H' → (∃ ls : List (Addr × List Str), ls.map (·.2) = (lotsR ts).filter (fun r => !decide (r = [])) ∧ ks = ls.mergeSort leT) → Q (.ref p) H'
theorem ok_lots (F : FnP K "_law_lots" i_law_lots f fd) (ms : mg "sorted" = none) : FnOk P w K mg base CX0 1 f fd ["tiles"] (spLots K) := by
  refine F.ok scLots (fun vs H Q E h => ?_) (fun cd A outer s H vs Q E hr h => ?_)
  · obtain ⟨a, ts, rfl, _⟩ := h
    rfl
  · obtain ⟨a, ts, rfl, hs, hl, ho, hQ⟩ := h
    refine ⟨_, PSs.nox (pss_cons (ps_set (i := 1) scLots.nd rfl (.inl rfl) (pe_lst (pa_cons (pe_tup pa_nil) pa_nil)))
      (pss_cons (ps_for PassesOwn.never rfl (pi_tup (pv 0)) (pg_name (i := 2) scLots.nd rfl (.inr rfl)) (pss_one (ps_set (i := 1) scLots.nd rfl (.inl rfl) (pe_op op_cat (pv 1)
        (pe_lc (own := [("lot", 3)]) (g := gName 3) (tt := tYes) (te := tOp (rCatA K) (tVar 3) (tTup (tCons (tVar 2) tNil))) rfl scLots.nd (pi_list (pv 1)) (blkOk_by (N := ["tiles", "found", "tile", "lot"]) (sc := defScope (topS i_law_lots)) (by decide +kernel))
          (fun _ _ _ _ _ => pg_name (i := 3) scLots.nd rfl (Or.inl rfl)) (fun _ _ _ _ _ => pts_nil) (fun _ _ _ _ _ => pe_op op_catA (pv 3) (pe_tup (pa_cons (pv 2) pa_nil))))))))
      (pss_one (ps_ret (pe_callB (call_sortT (hu64 hr)) (by rfl) ms (by decide +kernel) (pa_cons
        (pe_lc (own := [("lot", 3)]) (g := gName 3) (tt := tTest (tOp (rNeQ K) (tVar 3) (tTup tNil))) (te := tVar 3) rfl scLots.nd (pi_list (pv 1)) (blkOk_by (N := ["tiles", "found", "tile", "lot"]) (sc := defScope (topS i_law_lots)) (by decide +kernel))
          (fun _ _ _ _ _ => pg_name (i := 3) scLots.nd rfl (Or.inl rfl)) (fun _ _ _ _ _ => pts_one (pt_cmpR (op_neQ (hu64 hr)) (pv 3) (pe_tup pa_nil) (nomark _))) (fun _ _ _ _ _ => pv 3)) pa_nil)))))), ?_⟩
    have hs0 : ∀ {H' : Hp}, Same H H' → SqT K H' a (ts.map .str) := fun s => Same.seqT s hs
    refine ⟨few_line (by simp), fun t0 ht0 => ⟨few_line (by simp), fun p0 hp0 => ?_⟩⟩
    have n0 : t0 ≠ p0 := ne_of_none upd_same hp0
    have k0 : Same H (upd (upd H t0 (.tup [])) p0 (.lst [.ref t0])) := (same_new ht0).trans (same_new hp0)
    refine ⟨.ref a, rfl, a, rfl, ⟨_, hs0 k0⟩, for_tup (K := K) (xs := ts.map .str)
      (fun i σ H' => (∃ p y2 y3, σ = [some (.ref a), some (.ref p), y2, y3] ∧ ∃ ks : List (Addr × List Str), H' p = some (.lst (refsOf ks)) ∧ Tups K H' ks ∧ ks.map (·.2) = lotsR (ts.take i)) ∧ Same H H')
      ⟨⟨p0, _, _, rfl, [(t0, [])], upd_same, fun q hq => ?_, rfl⟩, k0⟩ (fun i σ H' _ h' => hs0 h'.2) ?_ ?_⟩
    · rw [List.mem_singleton.mp hq]
      exact .inl (.inl (by rw [upd_ne n0, upd_same]; rfl))
    · rintro i x σ H1 hx ⟨⟨p, y2, y3, rfl, ks, hp, hk, ek⟩, s1⟩
      obtain ⟨t, ht, rfl⟩ := str_at hx
      have lk : ks.length ≤ 64 := by
        have e := congrArg List.length ek
        rw [List.length_map, lotsR_len, List.length_take] at e
        rw [e]
        exact Nat.le_trans (Nat.pow_le_pow_right (by decide) (Nat.le_trans (Nat.min_le_right _ _) hl)) (by decide)
      refine ⟨.ref p, rfl, .ref p, rfl, p, rfl, ⟨_, .inl (.inl hp)⟩, fun D hD => lc_list (K := K) (a := p) (xs := refsOf ks)
        (fun j H' => Same H1 H' ∧ ∃ ls : List (Addr × List Str), H' D = some (.lst (refsOf ls)) ∧ Tups K H' ls ∧ ls.map (·.2) = ((ks.map (·.2)).take j).map (· ++ [t]))
        ⟨same_new hD, [], upd_same, fun _ z => (by cases z), by simp⟩ (fun j H' _ h' => .inl (.inl (h'.1 _ _ hp))) ?_ ?_⟩
      · rintro j y H2 hy ⟨s2, ls, hD2, hl2, el⟩
        obtain ⟨q, hq, rfl⟩ := ref_at hy
        have mq : q.2 ∈ lotsR (ts.take i) := by
          rw [← ek]
          exact List.mem_map.mpr ⟨q, List.mem_of_getElem? hq, rfl⟩
        have lq : q.2.length ≤ 6 := Nat.le_trans (lotsR_mem _ _ mq).length_le (Nat.le_trans (List.length_take_le' _ _) hl)
        have ll : ls.length ≤ 64 := by
          have e := congrArg List.length el
          rw [List.length_map, List.length_map, List.length_take, List.length_map] at e
          omega
        have sq := Same.seqT s2 (hk q (List.mem_of_getElem? hq))
        have fin : ∀ r H4, Same H2 H4 → SqT K H4 r ((q.2 ++ [t]).map V.str) → ∃ acc, H4 D = some (.lst acc) ∧ acc.length < sizeLine ∧
            (Same H1 (upd H4 D (.lst (acc ++ [.ref r]))) ∧ ∃ ls : List (Addr × List Str), (upd H4 D (.lst (acc ++ [.ref r]))) D = some (.lst (refsOf ls)) ∧ Tups K (upd H4 D (.lst (acc ++ [.ref r]))) ls ∧ ls.map (·.2) = ((ks.map (·.2)).take (j + 1)).map (· ++ [t])) := by
          intro r H4 s4 hr
          have hD4 := s4 _ _ hD2
          refine ⟨refsOf ls, hD4, fewer (by rw [refs_len]; omega), Same.wr (s2.trans s4) hD, ls ++ [(r, q.2 ++ [t])], by rw [upd_same, refs_app]; rfl, tups_wr hD4 ((hl2.same s4).app fun z m => ?_), ?_⟩
          · rw [List.mem_singleton.mp m]
            exact hr
          · rw [List.map_append, el, take_step (l := ks.map (·.2)) (by rw [List.getElem?_map, hq]; rfl), List.map_append]
            rfl
        refine ⟨rfl, .ref q.1, rfl, .str t, rfl, few_line (by simp), fun T hT => ⟨q.1, T, q.2.map .str, [.str t], rfl, rfl, Same.seqT (same_new hT) sq, .inl (.inl upd_same), few_line (by simp; omega), fun e => ?_, fun _ z => (by cases z), fun _ _ r hr => ?_⟩⟩
        · refine fin T _ (same_new hT) (.inl (.inl ?_))
          rw [upd_same, List.map_append, e]
          rfl
        · refine fin r _ ((same_new hT).trans (same_new hr)) (.inl (.inl ?_))
          rw [upd_same, List.map_append]
          rfl
      · rintro H2 ⟨s2, ls, hD2, hl2, el⟩
        rw [refs_len, List.take_of_length_le (Nat.le_of_eq (List.length_map ..))] at el
        have ll : ls.length = ks.length := by
          have e := congrArg List.length el
          rw [List.length_map, List.length_map, List.length_map] at e
          exact e
        refine ⟨p, D, _, _, rfl, rfl, s2 _ _ hp, hD2, few_line (by rw [refs_len, refs_len]; omega), fun r hr => ⟨⟨r, _, _, rfl, ks ++ ls, by rw [upd_same, refs_app], ((hk.same s2).app hl2).same (same_new hr), ?_⟩, (s1.trans s2).trans (same_new hr)⟩⟩
        rw [take_step ht, lotsR_snoc, List.map_append, ek, el, ek]
    · rintro σ H1 ⟨⟨p, y2, y3, rfl, ks, hp, hk, ek⟩, s1⟩
      rw [List.length_map, List.take_length] at ek
      have lk : ks.length ≤ 64 := by
        have e := congrArg List.length ek
        rw [List.length_map, lotsR_len] at e
        rw [e]
        exact Nat.le_trans (Nat.pow_le_pow_right (by decide) hl) (by decide)
      refine ⟨.ref p, rfl, p, rfl, ⟨_, .inl (.inl hp)⟩, fun D hD => lc_list (K := K) (a := p) (xs := refsOf ks)
        (fun j H' => Same H1 H' ∧ ∃ ls : List (Addr × List Str), H' D = some (.lst (refsOf ls)) ∧ (∀ q ∈ ls, q ∈ ks) ∧ ls.map (·.2) = ((ks.map (·.2)).take j).filter (fun r => !decide (r = [])))
        ⟨same_new hD, [], upd_same, fun _ z => (by cases z), by simp⟩ (fun j H' _ h' => .inl (.inl (h'.1 _ _ hp))) ?_ ?_⟩
      · rintro j y H2 hy ⟨s2, ls, hD2, hl2, el⟩
        obtain ⟨q, hq, rfl⟩ := ref_at hy
        have mk := List.mem_of_getElem? hq
        have mq : q.2 ∈ lotsR ts := by
          rw [← ek]
          exact List.mem_map.mpr ⟨q, mk, rfl⟩
        have oq : Oks q.2 := fun x m => ho x ((lotsR_mem _ _ mq).subset m)
        have sq := Same.seqT s2 (hk q mk)
        have stp := take_step (l := ks.map (·.2)) (i := j) (x := q.2) (by rw [List.getElem?_map, hq]; rfl)
        refine ⟨rfl, .ref q.1, rfl, few_line (by simp), fun T hT => ⟨rowD q.2, rowD [], row_is (Same.seqT (same_new hT) sq), row_is (.inl (.inl upd_same)), shaped_row oq, shaped_row (fun _ z => (by cases z)), _, rfl, ?_⟩⟩
        rw [eqv_row]
        have hD3 : (upd H2 T (.tup [])) D = some (.lst (refsOf ls)) := same_new hT _ _ hD2
        have ll : ls.length ≤ 64 := by
          have e := congrArg List.length el
          rw [List.length_map] at e
          have := List.length_filter_le (fun r : List Str => !decide (r = [])) ((ks.map (·.2)).take j)
          rw [List.length_take, List.length_map] at this
          omega
        by_cases c : q.2 = []
        · rw [decide_eq_true c]
          refine ⟨s2.trans (same_new hT), ls, hD3, hl2, ?_⟩
          rw [stp, List.filter_append, el, List.filter_cons_of_neg (by simp [c])]
          simp
        · rw [decide_eq_false c]
          refine ⟨.ref q.1, rfl, refsOf ls, hD3, fewer (by rw [refs_len]; omega), Same.wr (s2.trans (same_new hT)) hD, ls ++ [q], by rw [upd_same, refs_app]; rfl, fun z m => ?_, ?_⟩
          · rcases List.mem_append.mp m with m | m
            · exact hl2 z m
            · rw [List.mem_singleton.mp m]
              exact mk
          · rw [stp, List.filter_append, List.map_append, el, List.filter_cons_of_pos (by simp [c])]
            rfl
      · rintro H2 ⟨s2, ls, hD2, hl2, el⟩
        rw [refs_len, List.take_of_length_le (Nat.le_of_eq (List.length_map ..)), ek] at el
        have tl : Tups K H2 ls := fun q m => Same.seqT s2 (hk q (hl2 q m))
        refine ⟨D, ls, rfl, .inl (.inl hD2), tl, fun q m => ?_, fun r hr => hQ r _ _ (((s1.trans s2).free hr)) upd_same ((Tups.same (fun q m => tl q (List.mem_mergeSort.mp m)) (same_new hr))) ((s1.trans s2).trans (same_new hr)) ⟨ls, el, rfl⟩⟩
        have z : q.2 ∈ (lotsR ts).filter (fun r => !decide (r = [])) := by
          rw [← el]
          exact List.mem_map.mpr ⟨q, m, rfl⟩
        have z2 := (List.mem_filter.mp z).2
        simpa using z2
end
end K01

namespace K01
open PySem PySem.Spec PyProof.Rows L2 Ly
section
variable {P : Program} {w : World} {K : PySem.W.Frag} {mg : Str → Option Value} {base : Heap} {f fT fS fC : Addr} {fd fdT fdS fdC : FuncData}
theorem scIsC : FnScope ["bag", "way", "at", "to", "many"] ["bag", "way", "at", "to", "many"] (defScope (topS i_law_is_couple)) := ⟨rfl, rfl, rfl, by decide +kernel, rfl, by decide +kernel, by decide +kernel⟩
def spIsC : Sp := fun vs H Q _ => ∃ (b : Addr) (wy at_ to n : Int), vs = [.ref b, .int wy, .int at_, .int to, .int n] ∧ IsBag H b ∧ 0 < n ∧ ∀ c H', Dr b H H' → Q (.bl c) H'
theorem ok_isC (F : FnP K "_law_is_couple" i_law_is_couple f fd) (FT : FnP K "_law_take" i_law_take fT fdT) (gT : mg "_law_take" = some (.ref fT)) (mi : mg "int" = none) (ma : mg "abs" = none) : FnOk P w K mg base CX0 2 f fd ["bag", "way", "at", "to", "many"] spIsC := by
  have GT : FnOk P w K mg base CX0 1 fT fdT ["bag", "many"] spTake := ok_take FT mi
  have bT : Binds K fdT ["bag", "many"] [] := FT.bindsN fun _ _ _ _ _ _ us hl => match us, hl with | [_, _], _ => rfl
  refine F.ok scIsC (fun vs H Q E h => ?_) (fun cd A outer s H vs Q E hr h => ?_)
  · obtain ⟨b, wy, at_, to, n, rfl, _⟩ := h
    rfl
  · obtain ⟨b, wy, at_, to, n, rfl, hB, h0, hQ⟩ := h
    have same := fun c => hQ c H (Dr.refl hB)
    refine ⟨_, PSs.nox (pss_cons (ps_if (pt_cmpR op_eq (pv 1) pe_int (nomark _)) (pss_one (ps_ret (pe_cmpR op_gt (pe_call GT hr (by rfl) gT FT.kp bT .nil pass0 (pa_cons (pv 0) (pa_cons pe_int pa_nil))) pe_int (nomark _)))) pss_nil)
      (pss_cons (ps_if (pt_cmpR op_eq (pv 1) pe_int (nomark _)) (pss_one (ps_ret (pe_cmpR op_eq (pe_call GT hr (by rfl) gT FT.kp bT .nil pass0 (pa_cons (pv 0) (pa_cons pe_int pa_nil))) pe_int (nomark _)))) pss_nil)
      (pss_cons (ps_if (pt_cmpR op_eq (pv 1) pe_int (nomark _)) (pss_one (ps_ret (pe_cmpR op_lt (pe_callB call_abs (by rfl) ma (by decide +kernel) (pa_cons (pe_op op_sub (pv 2) (pv 3)) pa_nil)) pe_int (nomark _)))) pss_nil)
      (pss_cons (ps_if (pt_cmpR op_eq (pv 1) pe_int (nomark _)) (pss_one (ps_ret (pe_cmpR op_eq (pv 3) (pe_op op_mod (pe_op op_add (pv 2) pe_int) (pv 4)) (nomark _)))) pss_nil)
      (pss_cons (ps_if (pt_cmpR op_eq (pv 1) pe_int (nomark _)) (pss_one (ps_ret (pe_or (pe_cmpR op_ne (pv 2) (pv 3) (nomark _)) (pe_one (pe_cmpR op_eq (pv 4) pe_int (nomark _)))))) pss_nil)
      (pss_one (ps_ret (pe_or (pe_cmpR op_eq (pv 2) pe_int (nomark _)) (pe_or (pe_cmpR op_eq (pv 3) pe_int (nomark _)) (pe_one (pe_and (pe_cmpR op_eq (pv 1) pe_int (nomark _))
        (pe_one (pe_cmpR op_eq (pe_call GT hr (by rfl) gT FT.kp bT .nil pass0 (pa_cons (pv 0) (pa_cons pe_int pa_nil))) pe_int (nomark _)))))))))))))), ?_⟩
    refine ⟨_, rfl, rfl, _, rfl, ite2 (fun _ => ?_) (fun _ => ?_)⟩
    · exact ⟨_, rfl, b, 3, rfl, hB, by decide, by decide, fun v H' _ _ k g => ⟨_, _, rfl, rfl, hQ _ H' ⟨k, g⟩⟩⟩
    refine ⟨_, rfl, rfl, _, rfl, ite2 (fun _ => ?_) (fun _ => ?_)⟩
    · exact ⟨_, rfl, b, 2, rfl, hB, by decide, by decide, fun v H' _ _ k g => ⟨rfl, hQ _ H' ⟨k, g⟩⟩⟩
    refine ⟨_, rfl, rfl, _, rfl, ite2 (fun _ => ?_) (fun _ => ?_)⟩
    · exact ⟨_, rfl, _, rfl, _, _, rfl, rfl, _, rfl, _, _, rfl, rfl, same _⟩
    refine ⟨_, rfl, rfl, _, rfl, ite2 (fun _ => ?_) (fun _ => ?_)⟩
    · exact ⟨_, rfl, _, rfl, _, _, rfl, rfl, _, rfl, _, _, rfl, rfl, h0, rfl, same _⟩
    refine ⟨_, rfl, rfl, _, rfl, ite2 (fun _ => ?_) (fun _ => ?_)⟩
    · refine ⟨_, rfl, _, rfl, rfl, _, rfl, ite2' (fun _ => same _) fun _ => ⟨_, rfl, rfl, same _⟩⟩
    refine ⟨_, rfl, rfl, _, rfl, ite2' (fun _ => same _) fun _ => ⟨_, rfl, rfl, _, rfl, ite2' (fun _ => same _) fun _ => ⟨_, rfl, rfl, _, rfl, ite2' (fun _ => ?_) fun _ => same _⟩⟩⟩
    exact ⟨_, rfl, b, 3, rfl, hB, by decide, by decide, fun v H' _ _ k g => ⟨rfl, hQ _ H' ⟨k, g⟩⟩⟩
end
end K01

namespace K01
open PySem PySem.Spec PyProof.Rows L2 Ly
section
variable {P : Program} {w : World} {K : PySem.W.Frag} {mg : Str → Option Value} {base : Heap} {f fT fS fC : Addr} {fd fdT fdS fdC : FuncData}
/-- whether some couple in the list at slot 4 has the tile of slot 6 at c -/
theorem rd_cpl {b a p : Addr} {wy n : Int} {t : Str} {y5 y7 y8 y9 : Option V} {ts : List Str} {ks : List (Addr × List Str)} {c : Nat} {H : Hp} {Q : VK} (hc : c < 2) (hp : H p = some (.lst (refsOf ks))) (hk : Tups K H ks) (pr : ∀ q ∈ ks, ∃ x ∈ ts, ∃ y ∈ ts, q.2 = [x, y]) (lk : ks.length ≤ 1000) (ho : Oks ts)
    (h : ∀ e H', Same H H' → (e = true ↔ ∀ q ∈ ks, q.2[c]? ≠ some t) → Q (.bl e) H') :
    tOp (rEqQ K) (tLc (iList K (tVar 4)) (gName 9) (tTest (tOp rEq (tOp (rIxT K) (tVar 9) (tC (.int c))) (tVar 6))) (tVar 9) [9]) (tLst tNil) [some (.ref b), some (.ref a), some (.int wy), some (.int n), some (.ref p), y5, some (.str t), y7, y8, y9] H Q := by
  refine ⟨.ref p, rfl, p, rfl, ⟨_, .inl (.inl hp)⟩, fun D hD => lc_list (K := K) (a := p) (xs := refsOf ks)
    (fun j H' => Same H H' ∧ ∃ ls : List (Addr × List Str), H' D = some (.lst (refsOf ls)) ∧ (∀ q ∈ ls, q ∈ ks) ∧ (ls = [] ↔ ∀ q ∈ ks.take j, q.2[c]? ≠ some t) ∧ ls.length ≤ j)
    ⟨same_new hD, [], upd_same, fun _ z => (by cases z), by simp, Nat.le_refl _⟩ (fun j H' _ h' => .inl (.inl (h'.1 _ _ hp))) ?_ ?_⟩
  · rintro j y H2 hy ⟨s2, ls, hD2, hl2, el, ll⟩
    obtain ⟨q, hq, rfl⟩ := ref_at hy
    have mk := List.mem_of_getElem? hq
    have lj : j < ks.length := (List.getElem?_eq_some_iff.mp hq).1
    obtain ⟨x, mx, u, mu, eq⟩ := pr q mk
    obtain ⟨z, hz⟩ : ∃ z, q.2[c]? = some z := by
      rw [eq]
      match c, hc with
      | 0, _ => exact ⟨x, rfl⟩
      | 1, _ => exact ⟨u, rfl⟩
    have hz' : (q.2.map V.str)[c]? = some (.str z) := by
      rw [List.getElem?_map, hz]
      rfl
    refine ⟨rfl, .ref q.1, rfl, q.1, q.2.map .str, (c : Int), .str z, rfl, rfl, Same.seqT s2 (hk q mk), atI_nat hz', .str t, rfl, rfl, _, rfl, ite2 (fun e => ?_) (fun e => ?_)⟩
    · have ez : z = t := by
        have := of_decide_eq_true e
        injection this
      refine ⟨.ref q.1, rfl, refsOf ls, hD2, fewer (by rw [refs_len]; omega), Same.wr s2 hD, ls ++ [q], by rw [upd_same, refs_app]; rfl, fun r m => ?_, ?_, by rw [List.length_append]; simp; omega⟩
      · rcases List.mem_append.mp m with m | m
        · exact hl2 r m
        · rw [List.mem_singleton.mp m]
          exact mk
      · rw [take_step hq]
        refine ⟨fun z => absurd z (by simp), fun z => absurd (z q (by simp)) ?_⟩
        rw [hz, ez]
        simp
    · have ez : z ≠ t := fun z' => e (by rw [z']; exact decide_eq_true rfl)
      refine ⟨s2, ls, hD2, hl2, ?_, by omega⟩
      rw [el, take_step hq]
      constructor
      · intro w r m
        rcases List.mem_append.mp m with m | m
        · exact w r m
        · rw [List.mem_singleton.mp m, hz]
          simpa using ez
      · exact fun w r m => w r (List.mem_append_left _ m)
  · rintro H2 ⟨s2, ls, hD2, hl2, el, ll⟩
    rw [refs_len, List.take_length] at el
    rw [refs_len] at ll
    refine ⟨few_line (by simp), fun D2 hD3 => ⟨.list ((ls.map (·.2)).map rowD), .list [], ?_, .lst (.inl (.inl upd_same)) .nil, shaped_rowsL fun r m => ?_, by decide, h _ _ (s2.trans (same_new hD3)) ?_⟩⟩
    · exact .lst (.inl (.inl (same_new hD3 _ _ hD2))) (rows_is fun q m => Same.seqT (s2.trans (same_new hD3)) (hk q (hl2 q m)))
    · obtain ⟨q, mq, rfl⟩ := List.mem_map.mp m
      obtain ⟨x, mx, u, mu, eq⟩ := pr q (hl2 q mq)
      rw [eq]
      intro z mz
      simp only [List.mem_cons, List.not_mem_nil, or_false] at mz
      rcases mz with rfl | rfl
      · exact ho _ mx
      · exact ho _ mu
    · rw [← el]
      cases ls with
      | nil => simp [PyData.eqv, PyData.eqvAll]
      | cons q ls => simp [PyData.eqv, PyData.eqvAll]
abbrev nmC : List Str := ["bag", "tiles", "way", "many", "found", "at", "one", "to", "other", "couple"]
theorem scCpl : FnScope nmC ["bag", "tiles"] (defScope (topS i_law_couples)) := ⟨rfl, rfl, rfl, by decide +kernel, rfl, by decide +kernel, by decide +kernel⟩
def spCpl (K : PySem.W.Frag) : Sp := fun vs H Q _ => ∃ (b a : Addr) (ts : List Str), vs = [.ref b, .ref a] ∧ IsBag H b ∧ SqT K H a (ts.map .str) ∧ ts ≠ [] ∧ ts.length ≤ 4 ∧ Oks ts ∧
  ∀ p ks H', H p = none → H' p = some (.tup (refsOf ks)) → Tups K H' ks → Dr b H H' → GoodC ts (ks.map (·.2)) → (∃ ls : List (Addr × List Str), ks = ls.mergeSort leT) → Q (.ref p) H'
theorem ok_cpl (F : FnP K "_law_couples" i_law_couples f fd) (FT : FnP K "_law_take" i_law_take fT fdT) (gT : mg "_law_take" = some (.ref fT)) (FS : FnP K "_law_some" i_law_some fS fdS) (gS : mg "_law_some" = some (.ref fS))
    (FC : FnP K "_law_is_couple" i_law_is_couple fC fdC) (gC : mg "_law_is_couple" = some (.ref fC)) (mi : mg "int" = none) (ma : mg "abs" = none) (ml : mg "len" = none) (me : mg "enumerate" = none) (mt : mg "tuple" = none) (ms : mg "sorted" = none) (mz : mg "set" = none) :
    FnOk P w K mg base CX0 3 f fd ["bag", "tiles"] (spCpl K) := by
  have GS : FnOk P w K mg base CX0 2 fS fdS ["bag", "things"] (spSome K) := ok_some FS FT gT mi ml
  have bS : Binds K fdS ["bag", "things"] [] := FS.bindsN fun _ _ _ _ _ _ us hl => match us, hl with | [_, _], _ => rfl
  have GC : FnOk P w K mg base CX0 2 fC fdC ["bag", "way", "at", "to", "many"] spIsC := ok_isC FC FT gT mi ma
  have bC : Binds K fdC ["bag", "way", "at", "to", "many"] [] := FC.bindsN fun _ _ _ _ _ _ us hl => match us, hl with | [_, _, _, _, _], _ => rfl
  refine F.ok scCpl (fun vs H Q E h => ?_) (fun cd A outer s H vs Q E hr h => ?_)
  · obtain ⟨b, a, ts, rfl, _⟩ := h
    rfl
  · obtain ⟨b, a, ts, rfl, hB, hs, ne, hl, ho, hQ⟩ := h
    refine ⟨_, PSs.nox (pss_cons (ps_asg (pe_tup (pa_cons (pe_call GS hr (by rfl) gS FS.kp bS .nil pass0 (pa_cons (pv 0) (pa_cons (pe_lst (pa_cons pe_int (pa_cons pe_int (pa_cons pe_int (pa_cons pe_int (pa_cons pe_int (pa_cons pe_int (pa_cons pe_int (pa_cons pe_int (pa_cons pe_int (pa_cons pe_int pa_nil))))))))))) pa_nil)))
        (pa_cons (pe_callB call_len_seq (by rfl) ml PySem.boot_len (pa_cons (pv 1) pa_nil)) (pa_cons (pe_lst pa_nil) pa_nil))))
        (pg_tup rfl (pgs_cons (pg_name (i := 2) scCpl.nd rfl (.inr rfl)) (pgs_cons (pg_name (i := 3) scCpl.nd rfl (.inr rfl)) (pgs_cons (pg_name (i := 4) scCpl.nd rfl (.inl rfl)) pgs_nil)))))
      (pss_cons (ps_for PassesOwn.never rfl (pi_enumT (by rfl) me (pa_cons (pv 1) pa_nil)) (pg_tup rfl (pgs_cons (pg_name (i := 5) scCpl.nd rfl (.inr rfl)) (pgs_cons (pg_name (i := 6) scCpl.nd rfl (.inr rfl)) pgs_nil)))
        (pss_one (ps_expr (pe_bm PySem.F.plainAttrs_list PySem.F.slot_list_extend PySem.F.type_list_extend mt_extend (pv 4) (pa_cons
          (pe_lc (own := [("to", 7), ("other", 8)]) (g := gTup K 2 (gCons (gName 7) (gCons (gName 8) gNil))) (tt := tB (tCall spIsC [] E0 (tCons (tVar 0) (tCons (tVar 2) (tCons (tVar 5) (tCons (tVar 7) (tCons (tVar 3) tNil))))))) (te := tTup (tCons (tVar 6) (tCons (tVar 8) tNil)))
            rfl scCpl.nd (pi_enumT (by rfl) me (pa_cons (pv 1) pa_nil)) (blkOk_by (N := nmC) (sc := defScope (topS i_law_couples)) (by decide +kernel))
            (fun _ _ _ _ _ => pg_tup rfl (pgs_cons (pg_name (i := 7) scCpl.nd rfl (Or.inl rfl)) (pgs_cons (pg_name (i := 8) scCpl.nd rfl (Or.inl rfl)) pgs_nil)))
            (fun _ _ _ _ _ => pts_one (pt_val (pe_call GC hr (by rfl) gC FC.kp bC .nil pass0 (pa_cons (pv 0) (pa_cons (pv 2) (pa_cons (pv 5) (pa_cons (pv 7) (pa_cons (pv 3) pa_nil))))))))
            (fun _ _ _ _ _ => pe_tup (pa_cons (pv 6) (pa_cons (pv 8) pa_nil)))) pa_nil)))))
      (pss_cons (ps_for PassesOwn.never rfl (pi_tup (pv 1)) (pg_name (i := 6) scCpl.nd rfl (.inr rfl))
        (pss_cons (ps_if (pt_cmpR (op_eqQ (hu64 hr)) (pe_lc (own := [("couple", 9)]) (g := gName 9) (tt := tTest (tOp rEq (tOp (rIxT K) (tVar 9) (tC (.int 0))) (tVar 6))) (te := tVar 9) rfl scCpl.nd (pi_list (pv 4)) (blkOk_by (N := nmC) (sc := defScope (topS i_law_couples)) (by decide +kernel))
            (fun _ _ _ _ _ => pg_name (i := 9) scCpl.nd rfl (Or.inl rfl)) (fun _ _ _ _ _ => pts_one (pt_cmpR op_eq (pe_ix ix_tup (pv 9) pe_int (fun _ _ => rfl)) (pv 6) (nomark _))) (fun _ _ _ _ _ => pv 9)) (pe_lst pa_nil) (nomark _))
          (pss_one (ps_expr (pe_bm PySem.F.plainAttrs_list PySem.F.slot_list_append PySem.F.type_list_append mt_append (pv 4) (pa_cons (pe_tup (pa_cons (pv 6) (pa_cons (pe_call GS hr (by rfl) gS FS.kp bS .nil pass0 (pa_cons (pv 0) (pa_cons (pv 1) pa_nil))) pa_nil))) pa_nil)))) pss_nil)
        (pss_one (ps_if (pt_cmpR (op_eqQ (hu64 hr)) (pe_lc (own := [("couple", 9)]) (g := gName 9) (tt := tTest (tOp rEq (tOp (rIxT K) (tVar 9) (tC (.int 1))) (tVar 6))) (te := tVar 9) rfl scCpl.nd (pi_list (pv 4)) (blkOk_by (N := nmC) (sc := defScope (topS i_law_couples)) (by decide +kernel))
            (fun _ _ _ _ _ => pg_name (i := 9) scCpl.nd rfl (Or.inl rfl)) (fun _ _ _ _ _ => pts_one (pt_cmpR op_eq (pe_ix ix_tup (pv 9) pe_int (fun _ _ => rfl)) (pv 6) (nomark _))) (fun _ _ _ _ _ => pv 9)) (pe_lst pa_nil) (nomark _))
          (pss_one (ps_expr (pe_bm PySem.F.plainAttrs_list PySem.F.slot_list_append PySem.F.type_list_append mt_append (pv 4) (pa_cons (pe_tup (pa_cons (pe_call GS hr (by rfl) gS FS.kp bS .nil pass0 (pa_cons (pv 0) (pa_cons (pv 1) pa_nil))) (pa_cons (pv 6) pa_nil))) pa_nil)))) pss_nil))))
      (pss_one (ps_ret (pe_callTy call_tuple_of (by rfl) mt (by decide +kernel) (pa_cons (pe_callB (call_sortQ rfl (hu64 hr)) (by rfl) ms (by decide +kernel) (pa_cons (pe_callTy (call_setQ rfl (hu64 hr)) (by rfl) mz (by decide +kernel) (pa_cons (pv 4) pa_nil)) pa_nil)) pa_nil))))))), ?_⟩
    refine ⟨.ref b, rfl, few_line (by simp), fun p0 hp0 => ⟨b, p0, _, rfl, hB.new hp0, .inl ⟨.inl (.inl upd_same), hB.ne hp0⟩, by simp, by simp, fun v H1 hv k1 g1 => ?_⟩⟩
    obtain ⟨wy, rfl⟩ : ∃ wy, v = V.int wy := by
      simp only [List.mem_cons, List.not_mem_nil, or_false] at hv
      rcases hv with rfl | rfl | rfl | rfl | rfl | rfl | rfl | rfl | rfl | rfl <;> exact ⟨_, rfl⟩
    have d1 : Dr b H H1 := (Dr.new hB hp0).trans ⟨k1, g1⟩
    refine ⟨.ref a, rfl, a, _, rfl, .inr (d1.seqT hs), few_line (by simp), fun p hp => ⟨few_line (by simp), fun T hT => ⟨T, _, rfl, .inl (.inl upd_same), rfl, ?_⟩⟩⟩
    have hp' : H p = none := d1.free hp
    have nT : p ≠ T := ne_of_none upd_same hT
    have d2 : Dr b H (upd (upd H1 p (.lst [])) T (.tup [.int wy, .int ((ts.map V.str).length : Int), .ref p])) := (d1.trans (Dr.new d1.bag hp)).trans (Dr.new (Dr.new d1.bag hp).bag hT)
    have e2 : (upd (upd H1 p (.lst [])) T (.tup [.int wy, .int ((ts.map V.str).length : Int), .ref p])) p = some (.lst []) := by rw [upd_ne nT, upd_same]
    generalize upd (upd H1 p (.lst [])) T (.tup [.int wy, .int ((ts.map V.str).length : Int), .ref p]) = H2 at d2 e2 ⊢
    refine ⟨_, _, rfl, _, _, rfl, _, _, rfl, rfl, ?_⟩
    have npb : p ≠ b := hB.ne hp'
    have len4 : (ts.map V.str).length ≤ 4 := by
      rw [List.length_map]
      exact hl
    refine ⟨.ref a, rfl, a, _, rfl, d2.seqT hs, for_it (walk_enumT (xs := ts.map V.str)) (fun i σ H' => (∃ y5 y6 y7 y8 y9, σ = [some (.ref b), some (.ref a), some (.int wy), some (.int ((ts.map V.str).length : Int)), some (.ref p), y5, y6, y7, y8, y9]) ∧
        ∃ ks : List (Addr × List Str), H' p = some (.lst (refsOf ks)) ∧ Tups K H' ks ∧ (∀ q ∈ ks, ∃ x ∈ ts, ∃ y ∈ ts, q.2 = [x, y]) ∧ ks.length ≤ i * 4 ∧ Dr b H H')
      ⟨⟨_, _, _, _, _, rfl⟩, [], e2, fun _ z => (by cases z), fun _ z => (by cases z), by simp, d2⟩ (fun i σ H' _ h' => ?_) ?_ ?_⟩
    · obtain ⟨_, ks, _, _, _, _, d⟩ := h'
      exact d.seqT hs
    · rintro i x σ H3 H4 hi ⟨⟨y5, y6, y7, y8, y9, rfl⟩, ks, hp3, hk3, pr3, hl3, d3⟩ ⟨T, x', y', rfl, hT, rfl, e1, e2⟩
      cases e1
      obtain ⟨t, ht, rfl⟩ := str_at e2
      refine ⟨T, _, rfl, .inl (.inl upd_same), rfl, _, _, rfl, _, _, rfl, rfl, ?_⟩
      have d4 : Dr b H (upd H3 T (.tup [.int (i : Nat), .str t])) := d3.trans (Dr.new d3.bag hT)
      have hp4 : (upd H3 T (.tup [.int (i : Nat), .str t])) p = some (.lst (refsOf ks)) := same_new hT _ _ hp3
      have hk4 : Tups K (upd H3 T (.tup [.int (i : Nat), .str t])) ks := hk3.same (same_new hT)
      generalize upd H3 T (.tup [.int (i : Nat), .str t]) = H4 at d4 hp4 hk4 ⊢
      refine ⟨.ref p, rfl, .inl ⟨rfl, _, .inl (.inl hp4)⟩, .ref a, rfl, a, _, rfl, d4.seqT hs, fun D hD => lc_it (walk_enumT (xs := ts.map V.str))
        (fun j H' => Dr b H4 H' ∧ ∃ ls : List (Addr × List Str), H' D = some (.lst (refsOf ls)) ∧ Tups K H' ls ∧ (∀ q ∈ ls, ∃ x ∈ ts, ∃ y ∈ ts, q.2 = [x, y]) ∧ ls.length ≤ j)
        ⟨Dr.new d4.bag hD, [], upd_same, fun _ z => (by cases z), fun _ z => (by cases z), Nat.le_refl _⟩ (fun j H' _ h' => h'.1.seqT (d4.seqT hs)) ?_ ?_⟩
      · rintro j x H5 H6 hj ⟨d5, ls, hD5, hl5, pr5, ll⟩ ⟨T2, x2, y2, rfl, hT2, rfl, e3, e4⟩
        cases e3
        obtain ⟨u, hu, rfl⟩ := str_at e4
        have nD : D ≠ b := d4.bag.ne hD
        refine ⟨T2, _, rfl, .inl (.inl upd_same), rfl, _, _, rfl, _, _, rfl, rfl, rfl, ?_⟩
        have d6 : Dr b H4 (upd H5 T2 (.tup [.int (j : Nat), .str u])) := d5.trans (Dr.new d5.bag hT2)
        have hD6 : (upd H5 T2 (.tup [.int (j : Nat), .str u])) D = some (.lst (refsOf ls)) := same_new hT2 _ _ hD5
        have hl6 : Tups K (upd H5 T2 (.tup [.int (j : Nat), .str u])) ls := hl5.same (same_new hT2)
        generalize upd H5 T2 (.tup [.int (j : Nat), .str u]) = H6 at d6 hD6 hl6 ⊢
        refine ⟨.ref b, rfl, .int wy, rfl, .int (i : Nat), rfl, .int (j : Nat), rfl, .int ((ts.map V.str).length : Int), rfl, b, wy, (i : Int), (j : Int), ((ts.map V.str).length : Int), rfl, d6.bag, by omega, fun c H7 d7 => ⟨c, rfl, ite2' (fun _ => ?_) (fun _ => ?_)⟩⟩
        · refine ⟨.str t, rfl, .str u, rfl, few_line (by simp), fun r hr => ?_⟩
          have hD7 : (upd H7 r (.tup [.str t, .str u])) D = some (.lst (refsOf ls)) := same_new hr _ _ (d7.at_ nD hD6)
          refine ⟨refsOf ls, hD7, fewer (by rw [refs_len]; omega), ((d6.trans d7).trans (Dr.new d7.bag hr)).wr hD, ls ++ [(r, [t, u])], by rw [upd_same, refs_app]; rfl, tups_wr hD7 (((hl6.dr d7).same (same_new hr)).app fun q m => ?_), fun q m => ?_, by rw [List.length_append]; simp; omega⟩
          · rw [List.mem_singleton.mp m]
            exact .inl (.inl upd_same)
          · rcases List.mem_append.mp m with m | m
            · exact pr5 q m
            · rw [List.mem_singleton.mp m]
              exact ⟨t, List.mem_of_getElem? ht, u, List.mem_of_getElem? hu, rfl⟩
        · exact ⟨d6.trans d7, ls, d7.at_ nD hD6, hl6.dr d7, pr5, by omega⟩
      · rintro H5 ⟨d5, ls, hD5, hl5, pr5, ll⟩
        have hp5 := d5.at_ npb hp4
        refine ⟨p, D, _, _, rfl, rfl, hp5, hD5, few_line (by rw [refs_len, refs_len]; omega), ⟨_, _, _, _, _, rfl⟩, ks ++ ls, by rw [upd_same, refs_app], tups_wr hp5 ((hk4.dr d5).app hl5), fun q m => ?_, by rw [List.length_append]; omega, (d4.trans d5).wr hp'⟩
        rcases List.mem_append.mp m with m | m
        · exact pr3 q m
        · exact pr5 q m
    · rintro σ H3 ⟨⟨y5, y6, y7, y8, y9, rfl⟩, ks, hp3, hk3, pr3, hl3, d3⟩
      refine ⟨.ref a, rfl, a, rfl, ⟨_, d3.seqT hs⟩, for_tup (K := K) (xs := ts.map V.str) (fun i σ H' => (∃ y5 y6 y7 y8 y9, σ = [some (.ref b), some (.ref a), some (.int wy), some (.int ((ts.map V.str).length : Int)), some (.ref p), y5, y6, y7, y8, y9]) ∧
          ∃ ks : List (Addr × List Str), H' p = some (.lst (refsOf ks)) ∧ Tups K H' ks ∧ (∀ q ∈ ks, ∃ x ∈ ts, ∃ y ∈ ts, q.2 = [x, y]) ∧ ks.length ≤ 16 + i * 2 ∧ Dr b H H' ∧
            ∀ (j : Nat) (t : Str), j < i → ts[j]? = some t → (∃ y ∈ ts, [t, y] ∈ ks.map (·.2)) ∧ ∃ y ∈ ts, [y, t] ∈ ks.map (·.2))
        ⟨⟨_, _, _, _, _, rfl⟩, ks, hp3, hk3, pr3, by omega, d3, fun j t hj => absurd hj (Nat.not_lt_zero _)⟩ (fun i σ H' _ h' => ?_) ?_ ?_⟩
      · obtain ⟨_, ks, _, _, _, _, d, _⟩ := h'
        exact d.seqT hs
      · rintro i x σ H4 hx ⟨⟨y5, y6, y7, y8, y9, rfl⟩, ks4, hp4, hk4, pr4, ll4, d4, all4⟩
        obtain ⟨t, ht, rfl⟩ := str_at hx
        have mt1 := List.mem_of_getElem? ht
        have li : i < 4 := by
          have := (List.getElem?_eq_some_iff.mp ht).1
          omega
        refine rd_cpl (c := 0) (by decide) hp4 hk4 pr4 (by omega) ho (fun e1 H5 s5 he1 => ⟨_, rfl, ite2' (fun h1 => ?_) (fun h1 => ?_)⟩)
        · have d5 := d4.trans (Dr.same d4.bag s5)
          have hp5 := s5 _ _ hp4
          have hk5 := Tups.same hk4 s5
          refine ⟨.ref p, rfl, .inl ⟨rfl, _, .inl (.inl hp5)⟩, .str t, rfl, .ref b, rfl, .ref a, rfl, b, a, ts.map V.str, rfl, d5.bag, .inr (d5.seqT hs), by rw [List.length_map]; exact List.length_pos_iff.mpr ne, by omega, fun v H7 hv k7 g7 => ?_⟩
          obtain ⟨u, mu, rfl⟩ := List.mem_map.mp hv
          have d7 : Dr b H H7 := d5.trans ⟨k7, g7⟩
          have hp7 := k7 _ _ npb hp5
          have hk7 : Tups K H7 ks4 := hk5.dr ⟨k7, g7⟩
          refine ⟨few_line (by simp), fun r hr => ?_⟩
          have hp8 : (upd H7 r (.tup [.str t, .str u])) p = some (.lst (refsOf ks4)) := same_new hr _ _ hp7
          refine ⟨p, refsOf ks4, .ref r, rfl, rfl, hp8, fewer (by rw [refs_len]; omega), ?_⟩
          have hp9 : (upd (upd H7 r (.tup [.str t, .str u])) p (.lst (refsOf ks4 ++ [.ref r]))) p = some (.lst (refsOf (ks4 ++ [(r, [t, u])]))) := by rw [upd_same, refs_app]; rfl
          have hk9 : Tups K (upd (upd H7 r (.tup [.str t, .str u])) p (.lst (refsOf ks4 ++ [.ref r]))) (ks4 ++ [(r, [t, u])]) := tups_wr hp8 ((hk7.same (same_new hr)).app fun q m => by
            rw [List.mem_singleton.mp m]
            exact .inl (.inl upd_same))
          have d9 : Dr b H (upd (upd H7 r (.tup [.str t, .str u])) p (.lst (refsOf ks4 ++ [.ref r]))) := (d7.trans (Dr.new d7.bag hr)).wr hp'
          have pr9 : ∀ q ∈ ks4 ++ [(r, [t, u])], ∃ x ∈ ts, ∃ y ∈ ts, q.2 = [x, y] := fun q m => by
            rcases List.mem_append.mp m with m | m
            · exact pr4 q m
            · rw [List.mem_singleton.mp m]
              exact ⟨t, mt1, u, mu, rfl⟩
          have all9 : ∀ (j : Nat) (z : Str), j < i → ts[j]? = some z → (∃ y ∈ ts, [z, y] ∈ (ks4 ++ [(r, [t, u])]).map (·.2)) ∧ ∃ y ∈ ts, [y, z] ∈ (ks4 ++ [(r, [t, u])]).map (·.2) := fun j z hj hz => by
            rw [List.map_append]
            obtain ⟨⟨y, my, z1⟩, w, mw, z2⟩ := all4 j z hj hz
            exact ⟨⟨y, my, List.mem_append_left _ z1⟩, w, mw, List.mem_append_left _ z2⟩
          have fst9 : ∃ y ∈ ts, [t, y] ∈ (ks4 ++ [(r, [t, u])]).map (·.2) := ⟨u, mu, by rw [List.map_append]; exact List.mem_append_right _ (by simp)⟩
          have ll9 : (ks4 ++ [(r, [t, u])]).length ≤ 17 + i * 2 := by
            rw [List.length_append]
            simp
            omega
          generalize upd (upd H7 r (.tup [.str t, .str u])) p (.lst (refsOf ks4 ++ [.ref r])) = H9 at hp9 hk9 d9 ⊢
          generalize ks4 ++ [(r, [t, u])] = ks9 at hp9 hk9 pr9 all9 fst9 ll9
          clear hr hp8 hk7 hp7 d7 k7 g7 hv mu hk5 hp5 d5
          refine rd_cpl (c := 1) (by decide) hp9 hk9 pr9 (by omega) ho (fun e2 H6 s6 he2 => ⟨_, rfl, ite2' (fun h2 => ?_) (fun h2 => ?_)⟩)
          · have d6 := d9.trans (Dr.same d9.bag s6)
            have hp6 := s6 _ _ hp9
            have hk6 := Tups.same hk9 s6
            refine ⟨.ref p, rfl, .inl ⟨rfl, _, .inl (.inl hp6)⟩, .ref b, rfl, .ref a, rfl, b, a, ts.map V.str, rfl, d6.bag, .inr (d6.seqT hs), by rw [List.length_map]; exact List.length_pos_iff.mpr ne, by omega, fun v H7 hv k7 g7 => ?_⟩
            obtain ⟨u, mu, rfl⟩ := List.mem_map.mp hv
            have d7 : Dr b H H7 := d6.trans ⟨k7, g7⟩
            have hp7 := k7 _ _ npb hp6
            have hk7 : Tups K H7 ks9 := hk6.dr ⟨k7, g7⟩
            refine ⟨.str t, rfl, few_line (by simp), fun r hr => ?_⟩
            have hp8 : (upd H7 r (.tup [.str u, .str t])) p = some (.lst (refsOf ks9)) := same_new hr _ _ hp7
            refine ⟨p, refsOf ks9, .ref r, rfl, rfl, hp8, fewer (by rw [refs_len]; omega), ⟨_, _, _, _, _, rfl⟩, ks9 ++ [(r, [u, t])], by rw [upd_same, refs_app]; rfl, tups_wr hp8 ((hk7.same (same_new hr)).app fun q m => ?_), fun q m => ?_, by rw [List.length_append]; simp; omega, (d7.trans (Dr.new d7.bag hr)).wr hp', fun j z hj hz => ?_⟩
            · rw [List.mem_singleton.mp m]
              exact .inl (.inl upd_same)
            · rcases List.mem_append.mp m with m | m
              · exact pr9 q m
              · rw [List.mem_singleton.mp m]
                exact ⟨u, mu, t, mt1, rfl⟩
            · rw [List.map_append]
              rcases Nat.lt_succ_iff_lt_or_eq.mp hj with c | c
              · obtain ⟨⟨y, my, z1⟩, w, mw, z2⟩ := all9 j z c hz
                exact ⟨⟨y, my, List.mem_append_left _ z1⟩, w, mw, List.mem_append_left _ z2⟩
              · subst c
                rw [ht] at hz
                cases hz
                obtain ⟨y, my, z1⟩ := fst9
                exact ⟨⟨y, my, List.mem_append_left _ z1⟩, u, mu, List.mem_append_right _ (by simp)⟩
          · have d6 := d9.trans (Dr.same d9.bag s6)
            refine ⟨⟨_, _, _, _, _, rfl⟩, ks9, s6 _ _ hp9, Tups.same hk9 s6, pr9, by omega, d6, fun j z hj hz => ?_⟩
            rcases Nat.lt_succ_iff_lt_or_eq.mp hj with c | c
            · exact all9 j z c hz
            · subst c
              rw [ht] at hz
              cases hz
              refine ⟨fst9, ?_⟩
              have no : ¬ ∀ q ∈ ks9, q.2[1]? ≠ some t := fun z => by
                rw [he2.mpr z] at h2
                cases h2
              obtain ⟨q, mq, eq⟩ := not_all no
              obtain ⟨x1, m1, x2, m2, e12⟩ := pr9 q mq
              rw [e12] at eq
              have e3 : x2 = t := by simpa using eq
              subst e3
              exact ⟨x1, m1, List.mem_map.mpr ⟨q, mq, e12⟩⟩
        · have d5 := d4.trans (Dr.same d4.bag s5)
          have hp5 := s5 _ _ hp4
          have hk5 := Tups.same hk4 s5
          have fst5 : ∃ y ∈ ts, [t, y] ∈ ks4.map (·.2) := by
            have no : ¬ ∀ q ∈ ks4, q.2[0]? ≠ some t := fun z => by
              rw [he1.mpr z] at h1
              cases h1
            obtain ⟨q, mq, eq⟩ := not_all no
            obtain ⟨x1, m1, x2, m2, e12⟩ := pr4 q mq
            rw [e12] at eq
            have e3 : x1 = t := by simpa using eq
            subst e3
            exact ⟨x2, m2, List.mem_map.mpr ⟨q, mq, e12⟩⟩
          refine rd_cpl (c := 1) (by decide) hp5 hk5 pr4 (by omega) ho (fun e2 H6 s6 he2 => ⟨_, rfl, ite2' (fun h2 => ?_) (fun h2 => ?_)⟩)
          · have d6 := d5.trans (Dr.same d5.bag s6)
            have hp6 := s6 _ _ hp5
            have hk6 := Tups.same hk5 s6
            refine ⟨.ref p, rfl, .inl ⟨rfl, _, .inl (.inl hp6)⟩, .ref b, rfl, .ref a, rfl, b, a, ts.map V.str, rfl, d6.bag, .inr (d6.seqT hs), by rw [List.length_map]; exact List.length_pos_iff.mpr ne, by omega, fun v H7 hv k7 g7 => ?_⟩
            obtain ⟨u, mu, rfl⟩ := List.mem_map.mp hv
            have d7 : Dr b H H7 := d6.trans ⟨k7, g7⟩
            have hp7 := k7 _ _ npb hp6
            have hk7 : Tups K H7 ks4 := hk6.dr ⟨k7, g7⟩
            refine ⟨.str t, rfl, few_line (by simp), fun r hr => ?_⟩
            have hp8 : (upd H7 r (.tup [.str u, .str t])) p = some (.lst (refsOf ks4)) := same_new hr _ _ hp7
            refine ⟨p, refsOf ks4, .ref r, rfl, rfl, hp8, fewer (by rw [refs_len]; omega), ⟨_, _, _, _, _, rfl⟩, ks4 ++ [(r, [u, t])], by rw [upd_same, refs_app]; rfl, tups_wr hp8 ((hk7.same (same_new hr)).app fun q m => ?_), fun q m => ?_, by rw [List.length_append]; simp; omega, (d7.trans (Dr.new d7.bag hr)).wr hp', fun j z hj hz => ?_⟩
            · rw [List.mem_singleton.mp m]
              exact .inl (.inl upd_same)
            · rcases List.mem_append.mp m with m | m
              · exact pr4 q m
              · rw [List.mem_singleton.mp m]
                exact ⟨u, mu, t, mt1, rfl⟩
            · rw [List.map_append]
              rcases Nat.lt_succ_iff_lt_or_eq.mp hj with c | c
              · obtain ⟨⟨y, my, z1⟩, w, mw, z2⟩ := all4 j z c hz
                exact ⟨⟨y, my, List.mem_append_left _ z1⟩, w, mw, List.mem_append_left _ z2⟩
              · subst c
                rw [ht] at hz
                cases hz
                obtain ⟨y, my, z1⟩ := fst5
                exact ⟨⟨y, my, List.mem_append_left _ z1⟩, u, mu, List.mem_append_right _ (by simp)⟩
          · have d6 := d5.trans (Dr.same d5.bag s6)
            refine ⟨⟨_, _, _, _, _, rfl⟩, ks4, s6 _ _ hp5, Tups.same hk5 s6, pr4, by omega, d6, fun j z hj hz => ?_⟩
            rcases Nat.lt_succ_iff_lt_or_eq.mp hj with c | c
            · exact all4 j z c hz
            · subst c
              rw [ht] at hz
              cases hz
              refine ⟨fst5, ?_⟩
              have no : ¬ ∀ q ∈ ks4, q.2[1]? ≠ some t := fun z => by
                rw [he2.mpr z] at h2
                cases h2
              obtain ⟨q, mq, eq⟩ := not_all no
              obtain ⟨x1, m1, x2, m2, e12⟩ := pr4 q mq
              rw [e12] at eq
              have e3 : x2 = t := by simpa using eq
              subst e3
              exact ⟨x1, m1, List.mem_map.mpr ⟨q, mq, e12⟩⟩
      · rintro σ H4 ⟨⟨y5, y6, y7, y8, y9, rfl⟩, ks4, hp4, hk4, pr4, ll4, d4, all4⟩
        refine ⟨.ref p, rfl, p, ks4, rfl, .inl (.inl hp4), hk4, by omega, fun z L hz hL1 hL2 hL3 hL4 => ⟨z, L, rfl, upd_same, fun q m => Same.seqT (same_new hz) (hk4 q (hL1 q m)), fun q m => ?_, fun L' r pm hr => ⟨r, _, rfl, .inl ⟨.inl (.inl upd_same), fun l hlf => ?_⟩⟩⟩⟩
        · obtain ⟨x, _, y, _, e⟩ := pr4 q (hL1 q m)
          rw [e]
          simp
        · have s3 : Same H4 (upd (upd (upd H4 z (SetQ P w z L)) r (.lst (refsOf (L'.mergeSort leT)))) l (.tup (refsOf (L'.mergeSort leT)))) := ((same_new hz).trans (same_new hr)).trans (same_new hlf)
          have dF := d4.trans (Dr.same d4.bag s3)
          have pm2 : (L'.mergeSort leT).Perm L := (List.mergeSort_perm _ _).trans pm
          have pm3 : ((L'.mergeSort leT).map (·.2)).Perm (L.map (·.2)) := pm2.map (·.2)
          have up : ∀ r ∈ ks4.map (·.2), r ∈ (L'.mergeSort leT).map (·.2) := fun r m => by
            obtain ⟨q, mq, rfl⟩ := List.mem_map.mp m
            exact pm3.mem_iff.mpr (hL2 q mq)
          refine hQ l (L'.mergeSort leT) _ ((d4.trans (Dr.same d4.bag ((same_new hz).trans (same_new hr)))).free hlf) upd_same (fun q m => Same.seqT s3 (hk4 q (hL1 q (pm2.mem_iff.mp m)))) dF ⟨fun r m => ?_, pm3.nodup_iff.mpr hL3, fun x mx => ?_, fun x mx => ?_, ?_⟩ ⟨L', rfl⟩
          · obtain ⟨q, mq, rfl⟩ := List.mem_map.mp m
            exact pr4 q (hL1 q (pm2.mem_iff.mp mq))
          · obtain ⟨j, lj, ej⟩ := List.getElem_of_mem mx
            obtain ⟨⟨y, my, z1⟩, _⟩ := all4 j x (by rw [List.length_map]; exact lj) (by rw [List.getElem?_eq_getElem lj, ej])
            exact ⟨y, my, up _ z1⟩
          · obtain ⟨j, lj, ej⟩ := List.getElem_of_mem mx
            obtain ⟨_, y, my, z1⟩ := all4 j x (by rw [List.length_map]; exact lj) (by rw [List.getElem?_eq_getElem lj, ej])
            exact ⟨y, my, up _ z1⟩
          · rw [List.length_map, pm2.length_eq]
            omega
end
end K01

namespace K01
open PySem PySem.Spec PyProof.Rows L2 Ly
section
variable {P : Program} {w : World} {K : PySem.W.Frag} {mg : Str → Option Value} {base : Heap} {f fT fS fC fI fM fL : Addr} {fd fdT fdS fdC fdI fdM fdL : FuncData}
abbrev nmW : List Str := ["bag", "tiles", "kinds", "marks", "most", "pool", "names", "places", "words", "tables", "ties", "turn", "told", "word", "lot"]
theorem scWof : FnScope nmW ["bag", "tiles", "kinds", "marks", "most"] (defScope (topS i_law_world_of)) := ⟨rfl, rfl, rfl, by decide +kernel, rfl, by decide +kernel, by decide +kernel⟩
def spWof (K : PySem.W.Frag) : Sp := fun vs H Q _ => ∃ (b : Addr) (nt nk nm most : Nat), vs = [.ref b, .int nt, .int nk, .int nm, .int most] ∧ IsBag H b ∧ 1 ≤ nt ∧ nt ≤ 4 ∧ nk ≤ 4 ∧ 1 ≤ nm ∧ nm ≤ 4 ∧ most ≤ 39 ∧
  ∀ p W H', H p = none → WAt K H' p W → Dr b H H' → GoodW W → Q (.ref p) H'
theorem ok_wof (F : FnP K "_law_world_of" i_law_world_of f fd) (FT : FnP K "_law_take" i_law_take fT fdT) (gT : mg "_law_take" = some (.ref fT)) (FS : FnP K "_law_some" i_law_some fS fdS) (gS : mg "_law_some" = some (.ref fS))
    (FI : FnP K "_law_is_couple" i_law_is_couple fI fdI) (gI : mg "_law_is_couple" = some (.ref fI)) (FC : FnP K "_law_couples" i_law_couples fC fdC) (gC : mg "_law_couples" = some (.ref fC))
    (FM : FnP K "_law_mixed" i_law_mixed fM fdM) (gM : mg "_law_mixed" = some (.ref fM)) (FL : FnP K "_law_lots" i_law_lots fL fdL) (gL : mg "_law_lots" = some (.ref fL))
    (mi : mg "int" = none) (ma : mg "abs" = none) (ml : mg "len" = none) (me : mg "enumerate" = none) (mt : mg "tuple" = none) (ms : mg "sorted" = none) (mz : mg "set" = none) (mr : mg "range" = none) :
    FnOk P w K mg base CX0 4 f fd ["bag", "tiles", "kinds", "marks", "most"] (spWof K) := by
  have GT : FnOk P w K mg base CX0 1 fT fdT ["bag", "many"] spTake := ok_take FT mi
  have bT : Binds K fdT ["bag", "many"] [] := FT.bindsN fun _ _ _ _ _ _ us hl => match us, hl with | [_, _], _ => rfl
  have GS : FnOk P w K mg base CX0 2 fS fdS ["bag", "things"] (spSome K) := ok_some FS FT gT mi ml
  have bS : Binds K fdS ["bag", "things"] [] := FS.bindsN fun _ _ _ _ _ _ us hl => match us, hl with | [_, _], _ => rfl
  have GC : FnOk P w K mg base CX0 3 fC fdC ["bag", "tiles"] (spCpl K) := ok_cpl FC FT gT FS gS FI gI mi ma ml me mt ms mz
  have bC : Binds K fdC ["bag", "tiles"] [] := FC.bindsN fun _ _ _ _ _ _ us hl => match us, hl with | [_, _], _ => rfl
  have GM : FnOk P w K mg base CX0 2 fM fdM ["bag", "things"] (spMixed K) := ok_mixed FM FT gT mi ml
  have bM : Binds K fdM ["bag", "things"] [] := FM.bindsN fun _ _ _ _ _ _ us hl => match us, hl with | [_, _], _ => rfl
  have GL : FnOk P w K mg base CX0 1 fL fdL ["tiles"] (spLots K) := ok_lots FL ms
  have bL : Binds K fdL ["tiles"] [] := FL.bindsN fun _ _ _ _ _ _ us hl => match us, hl with | [_], _ => rfl
  refine F.ok scWof (fun vs H Q E h => ?_) (fun cd A outer s H vs Q E hr h => ?_)
  · obtain ⟨b, nt, nk, nm, most, rfl, _⟩ := h
    rfl
  · obtain ⟨b, nt, nk, nm, most, rfl, hB, t1, t4, k4, m1, m4, ms4, hQ⟩ := h
    have r1 : Room 1 _ := hr.mono (by decide)
    have r2 : Room 2 _ := hr.mono (by decide)
    obtain ⟨tD, hD, qD⟩ : ∃ t, PSs (cxOf CX0 P w K mg base nmW "_law_world_of" (defScope (topS i_law_world_of)) f cd A outer s H E).nox ((defBody (topS i_law_world_of)).drop 7) t ∧
        ∀ (H1 : Hp) (pN tb pP pW p10 : Addr) (y5 y11 : Option V) (ns ps ks : List Str) (tabs : List (Str × List (List Str))) (tk : List (Addr × List Str)), Dq K H1 (.ref pN) (rowD ns) → TbA K H1 (.ref tb) tabs → Dq K H1 (.ref pP) (rowD ps) →
          H1 p10 = some (.lst (refsOf tk)) → Tups K H1 tk → (∀ q ∈ tk, ∃ k ∈ ks, ∃ x ∈ ps, ∃ y ∈ ps, q.2 = [k, x, y]) → tk.length ≤ 40 → p10 ≠ b → NamesOk (poolA ++ poolB) nt ns → NamesOk placesA nm ps → NamesOk wordsA nk ks → tabs.map (·.1) = ks → (∀ t ∈ tabs, GoodC ns t.2 ∧ AscR t.2) → Dr b H H1 →
          t { nx := fun _ H' => Q .non H', rt := Q } [some (.ref b), some (.int nt), some (.int nk), some (.int nm), some (.int most), y5, some (.ref pN), some (.ref pP), some (.ref pW), some (.ref tb), some (.ref p10), y11, none, none, none] H1 := by
      refine ⟨_, (pss_cons (ps_setLc (i := 12) (own := [("lot", 14)]) (g := gName 14) (tt := tTest (tOp rEq (tCall spTake [] E0 (tCons (tVar 0) (tCons (tC (.int 6)) tNil))) (tC (.int 0)))) (te := tVar 14) rfl scWof.nd rfl rfl (sw_true rfl rfl rfl (by decide +kernel))
            (pi_list (pe_call GL r1 (by rfl) gL FL.kp bL .nil pass0 (pa_cons (pv 6) pa_nil))) (blkOk_by (N := nmW) (sc := defScope (topS i_law_world_of)) (by decide +kernel)) (fun _ _ _ _ _ => pg_name (i := 14) scWof.nd rfl (Or.inl rfl))
            (fun _ _ _ _ _ => pts_one (pt_cmpR op_eq (pe_call GT r1 (by rfl) gT FT.kp bT .nil pass0 (pa_cons (pv 0) (pa_cons pe_int pa_nil))) pe_int (nomark _))) (fun _ _ _ _ _ => pv 14))
        (pss_one (ps_ret (pe_tup (pa_cons (pv 6) (pa_cons (pv 9) (pa_cons (pv 7) (pa_cons (pe_callTy call_tuple_of (by rfl) mt (by decide +kernel) (pa_cons (pe_callB (call_sortQ rfl (hu64 hr)) (by rfl) ms (by decide +kernel) (pa_cons (pe_callTy (call_setQ rfl (hu64 hr)) (by rfl) mz (by decide +kernel) (pa_cons (pv 10) pa_nil)) pa_nil)) pa_nil))
          (pa_cons (pe_callTy call_tuple_of (by rfl) mt (by decide +kernel) (pa_cons (pe_slice sl_list (pv 12) po_none (po_some (pe_call GS r2 (by rfl) gS FS.kp bS .nil pass0 (pa_cons (pv 0) (pa_cons (pe_lst (pa_cons pe_int (pa_cons pe_int (pa_cons pe_int (pa_cons pe_int pa_nil))))) pa_nil))))) pa_nil)) pa_nil))))))))), ?_⟩
      intro H1 pN tb pP pW p10 y5 y11 ns ps ks tabs tk hN hT hP h10 hk10 pr10 l10 n10 okN okP okW etab htab d1
      obtain ⟨aN, eaN, sN⟩ := row_of hN
      cases eaN
      refine ⟨.ref pN, rfl, pN, ns, rfl, sN, by rw [okN.len]; omega, okN.oks (fun x m => List.mem_append_left _ (List.mem_append_left _ m)), fun pl ls H2 hpl el tl s2 hls => ⟨pl, rfl, ⟨_, .inl (.inl el)⟩, fun D hD => lc_list (K := K) (a := pl) (xs := refsOf ls)
        (fun j H' => Dr b H2 H' ∧ ∃ zs : List (Addr × List Str), H' D = some (.lst (refsOf zs)) ∧ zs.Sublist (ls.take j)) ⟨Dr.new (d1.bag.same s2) hD, [], upd_same, List.nil_sublist _⟩ (fun j H' _ h' => ?_) ?_ ?_⟩⟩
      · exact h'.1.seqL (d1.bag.ne hpl) (.inl (.inl el))
      · rintro j y H3 hy ⟨d3, zs, hD3, sub⟩
        obtain ⟨q, hq, rfl⟩ := ref_at hy
        have nD : D ≠ b := (d1.bag.same s2).ne hD
        refine ⟨rfl, .ref b, rfl, b, 6, rfl, d3.bag, by decide, by decide, fun v H4 _ _ k4 g4 => ⟨rfl, _, rfl, ite2 (fun _ => ?_) (fun _ => ?_)⟩⟩
        · have hD4 := k4 _ _ nD hD3
          have lz : zs.length ≤ ls.length := Nat.le_trans sub.length_le (List.length_take_le' _ _)
          refine ⟨.ref q.1, rfl, refsOf zs, hD4, ?_, (d3.trans ⟨k4, g4⟩).wr hD, zs ++ [q], by rw [upd_same, refs_app]; rfl, ?_⟩
          · rw [refs_len]
            obtain ⟨ls0, e0, em⟩ := hls
            have e1 := congrArg List.length e0
            have e2 := List.length_filter_le (fun r : List Str => !decide (r = [])) (lotsR ns)
            rw [lotsR_len, okN.len] at e2
            rw [List.length_map] at e1
            have e3 : ls.length = ls0.length := by rw [em, List.length_mergeSort]
            have e4 : 2 ^ nt ≤ 2 ^ 4 := Nat.pow_le_pow_right (by decide) t4
            exact fewer (by omega)
          · rw [take_step hq]
            exact sub.append (List.Sublist.refl _)
        · refine ⟨d3.trans ⟨k4, g4⟩, zs, k4 _ _ nD hD3, ?_⟩
          rw [take_step hq]
          exact sub.trans (List.sublist_append_left _ _)
      · rintro H3 ⟨d3, zs, hD3, sub⟩
        rw [refs_len, List.take_length] at sub
        have nD : D ≠ b := (d1.bag.same s2).ne hD
        have d13 : Dr b H1 H3 := (Dr.same d1.bag s2).trans d3
        have hN3 := hN.dr d13 (tup_row _)
        have hT3 := hT.dr d13
        have hP3 := hP.dr d13 (tup_row _)
        have h103 := d13.kp _ _ n10 h10
        have hk3 : Tups K H3 tk := hk10.dr d13
        have tz : Tups K H3 zs := (Tups.dr (fun q m => tl q (sub.subset m)) d3)
        refine ⟨.ref pN, rfl, .ref tb, rfl, .ref pP, rfl, .ref p10, rfl, p10, tk, rfl, .inl (.inl h103), hk3, by omega, fun z L hz hL1 hL2 hL3 hL4 => ⟨z, L, rfl, upd_same, fun q m => Same.seqT (same_new hz) (hk3 q (hL1 q m)), fun q m => ?_, fun L' r pm hr => ⟨r, _, rfl, .inl ⟨.inl (.inl upd_same), fun l hl => ?_⟩⟩⟩⟩
        · obtain ⟨k, _, x, _, y, _, e⟩ := pr10 q (hL1 q m)
          rw [e]
          simp
        have pm2 : (L'.mergeSort leT).Perm L := (List.mergeSort_perm _ _).trans pm
        have s4 : Same H3 (upd (upd (upd H3 z (SetQ P w z L)) r (.lst (refsOf (L'.mergeSort leT)))) l (.tup (refsOf (L'.mergeSort leT)))) := ((same_new hz).trans (same_new hr)).trans (same_new hl)
        have hl4 : Dq K (upd (upd (upd H3 z (SetQ P w z L)) r (.lst (refsOf (L'.mergeSort leT)))) l (.tup (refsOf (L'.mergeSort leT)))) (.ref l) (.tuple (((L'.mergeSort leT).map (·.2)).map rowD)) :=
          .tup (.inl (.inl upd_same)) (rows_is fun q m => Same.seqT s4 (hk3 q (hL1 q (pm2.mem_iff.mp m))))
        have d4 := (d1.trans d13).trans (Dr.same (d1.trans d13).bag s4)
        refine ⟨.ref D, rfl, .ref b, rfl, few_line (by simp), fun pL hpL => ⟨b, pL, _, rfl, (Dr.new d4.bag hpL).bag, .inl ⟨.inl (.inl upd_same), d4.bag.ne hpL⟩, by simp, by simp, fun v H5 hv k5 g5 => ?_⟩⟩
        obtain ⟨n, n3, rfl⟩ : ∃ n : Nat, n ≤ 3 ∧ v = .int n := by
          simp only [List.mem_cons, List.not_mem_nil, or_false] at hv
          rcases hv with rfl | rfl | rfl | rfl
          · exact ⟨0, by decide, rfl⟩
          · exact ⟨1, by decide, rfl⟩
          · exact ⟨3, by decide, rfl⟩
          · exact ⟨0, by decide, rfl⟩
        have d45 := (Dr.new d4.bag hpL).trans (Dr.mk k5 g5)
        have hD5 : H5 D = some (.lst (refsOf zs)) := d45.kp _ _ nD (s4 _ _ hD3)
        refine ⟨n, rfl, D, _, rfl, .inl (.inl hD5), fun q hq => ?_⟩
        rw [cut_take', show (refsOf zs).take n = refsOf (zs.take n) from (List.map_take ..).symm]
        refine ⟨q, _, rfl, .inl ⟨.inl (.inl upd_same), fun l2 hl2 => ⟨few_line (by simp), fun pR hpR => ?_⟩⟩⟩
        have s56 : Same H5 (upd (upd H5 q (.lst (refsOf (zs.take n)))) l2 (.tup (refsOf (zs.take n)))) := (same_new hq).trans (same_new hl2)
        have d6 : Dr b H3 _ := ((Dr.same (d1.trans d13).bag s4).trans d45).trans (Dr.same d45.bag s56)
        have d7 := d6.trans (Dr.new (o := .tup [V.ref pN, V.ref tb, V.ref pP, V.ref l, V.ref l2]) d6.bag hpR)
        have d47 := (d45.trans (Dr.same d45.bag s56)).trans (Dr.new (o := .tup [V.ref pN, V.ref tb, V.ref pP, V.ref l, V.ref l2]) d6.bag hpR)
        have tz6 : Tups K (upd (upd H5 q (.lst (refsOf (zs.take n)))) l2 (.tup (refsOf (zs.take n)))) (zs.take n) := Tups.dr (fun q m => tz q (List.mem_of_mem_take m)) d6
        obtain ⟨ls0, e0, em⟩ := hls
        refine hQ pR ⟨ns, tabs, ps, (L'.mergeSort leT).map (·.2), (zs.take n).map (·.2)⟩ _ (((d1.trans d13).trans d6).free hpR) ⟨_, _, _, _, _, .inl (.inl upd_same), hN3.dr d7 (tup_row _), hT3.dr d7, hP3.dr d7 (tup_row _), hl4.dr d47 (by show tupDs _ = true; exact tup_rows _), .tup (.inl (.inl ?_)) (rows_is (tz6.same (same_new hpR)))⟩
          ((d1.trans d13).trans d7) ⟨⟨nt, t1, t4, okN⟩, ⟨nk, k4, by rw [etab]; exact okW⟩, htab, ⟨nm, m1, m4, okP⟩, fun r m => ?_, (pm2.map (·.2)).nodup_iff.mpr hL3, ⟨L', rfl⟩, ?_, fun r m => ?_, ⟨ls0, e0, ?_⟩, ?_⟩
        · rw [upd_ne (ne_of_none upd_same hpR), upd_same]
        · obtain ⟨q, mq, rfl⟩ := List.mem_map.mp m
          rw [etab]
          exact pr10 q (hL1 q (pm2.mem_iff.mp mq))
        · show ((L'.mergeSort leT).map (·.2)).length ≤ 40
          rw [List.length_map, pm2.length_eq]
          omega
        · obtain ⟨q, mq, rfl⟩ := List.mem_map.mp m
          have m2 : q ∈ ls0 := by
            have := sub.subset (List.mem_of_mem_take mq)
            rw [em] at this
            exact List.mem_mergeSort.mp this
          have m3 : q.2 ∈ (lotsR ns).filter (fun r => !decide (r = [])) := by
            rw [← e0]
            exact List.mem_map.mpr ⟨q, m2, rfl⟩
          obtain ⟨m4, m5⟩ := List.mem_filter.mp m3
          exact ⟨by simpa using m5, m4⟩
        · rw [← em]
          exact ((List.take_sublist _ _).trans sub).map _
        · show ((zs.take n).map (·.2)).length ≤ 3
          rw [List.length_map, List.length_take]
          omega
    obtain ⟨tC, hC, qC⟩ : ∃ t, PSs (cxOf CX0 P w K mg base nmW "_law_world_of" (defScope (topS i_law_world_of)) f cd A outer s H E).nox ((defBody (topS i_law_world_of)).drop 4) t ∧
        ∀ (H1 : Hp) (pN pP pW p5 : Addr) (ns ps ks : List Str), H1 pN = some (.tup (ns.map .str)) → H1 pP = some (.tup (ps.map .str)) → H1 pW = some (.lst (ks.map .str)) → pW ≠ b → H pW = none → NamesOk (poolA ++ poolB) nt ns → NamesOk placesA nm ps → NamesOk wordsA nk ks → Dr b H H1 →
          t { nx := fun _ H' => Q .non H', rt := Q } [some (.ref b), some (.int nt), some (.int nk), some (.int nm), some (.int most), some (.ref p5), some (.ref pN), some (.ref pP), some (.ref pW), none, none, none, none, none, none] H1 := by
      refine ⟨_, (pss_cons (ps_set (i := 9) scWof.nd rfl (.inl rfl) (pe_callTy call_tuplePl (by rfl) mt (by decide +kernel) (pa_cons
          (pe_lc (own := [("word", 13)]) (g := gName 13) (tt := tYes) (te := tTup (tCons (tVar 13) (tCons (tCall (spCpl K) [] E0 (tCons (tVar 0) (tCons (tVar 6) tNil))) tNil))) rfl scWof.nd (pi_list (pv 8)) (blkOk_by (N := nmW) (sc := defScope (topS i_law_world_of)) (by decide +kernel))
            (fun _ _ _ _ _ => pg_name (i := 13) scWof.nd rfl (Or.inl rfl)) (fun _ _ _ _ _ => pts_nil) (fun _ _ _ _ _ => pe_tup (pa_cons (pv 13) (pa_cons (pe_call GC hr (by rfl) gC FC.kp bC .nil pass0 (pa_cons (pv 0) (pa_cons (pv 6) pa_nil))) pa_nil)))) pa_nil)))
        (pss_cons (ps_set (i := 10) scWof.nd rfl (.inl rfl) (pe_lst pa_nil))
        (pss_cons (ps_for PassesOwn.never rfl (pi_range1 rfl mr (pa_cons (pe_ifExp (pt_cmpR op_gt (pv 2) pe_int (nomark _))
            (pe_call GS r2 (by rfl) gS FS.kp bS .nil pass0 (pa_cons (pv 0) (pa_cons (pe_lst (pa_cons pe_int (pa_cons pe_int (pa_cons (pv 4) (pa_cons (pe_call GT r1 (by rfl) gT FT.kp bT .nil pass0 (pa_cons (pv 0) (pa_cons (pe_op op_add (pv 4) pe_int) pa_nil))) pa_nil))))) pa_nil))) pe_int) pa_nil)) (pg_name (i := 11) scWof.nd rfl (.inl rfl))
          (pss_one (ps_expr (pe_bm PySem.F.plainAttrs_list PySem.F.slot_list_append PySem.F.type_list_append mt_append (pv 10) (pa_cons (pe_tup
            (pa_cons (pe_call GS r2 (by rfl) gS FS.kp bS .nil pass0 (pa_cons (pv 0) (pa_cons (pv 8) pa_nil))) (pa_cons (pe_call GS r2 (by rfl) gS FS.kp bS .nil pass0 (pa_cons (pv 0) (pa_cons (pv 7) pa_nil)))
            (pa_cons (pe_call GS r2 (by rfl) gS FS.kp bS .nil pass0 (pa_cons (pv 0) (pa_cons (pv 7) pa_nil))) pa_nil)))) pa_nil))))) hD))), ?_⟩
      intro H1 pN pP pW p5 ns ps ks eN eP eW nW fW okN okP okW d1
      have oN := okN.oks (fun x m => List.mem_append_left _ (List.mem_append_left _ m))
      have neN : ns ≠ [] := fun z => by
        have := okN.len
        rw [z] at this
        simp only [List.length_nil] at this
        omega
      refine ⟨.ref pW, rfl, pW, rfl, ⟨_, .inl (.inl eW)⟩, fun D hD => lc_list (K := K) (a := pW) (xs := ks.map V.str)
        (fun j H' => Dr b H1 H' ∧ ∃ vs tabs, H' D = some (.lst vs) ∧ DqA K H' vs (tabs.map tabD) ∧ tabs.map (·.1) = ks.take j ∧ ∀ t ∈ tabs, GoodC ns t.2 ∧ AscR t.2)
        ⟨Dr.new d1.bag hD, [], [], upd_same, .nil, rfl, fun _ z => (by cases z)⟩ (fun j H' _ h' => h'.1.seqL nW (.inl (.inl eW))) ?_ ?_⟩
      · rintro j x H2 hx ⟨d2, vs, tabs, hD2, hv2, ek, gd⟩
        obtain ⟨k, hk, rfl⟩ := str_at hx
        have nD : D ≠ b := d1.bag.ne hD
        refine ⟨rfl, .str k, rfl, .ref b, rfl, .ref pN, rfl, b, pN, ns, rfl, d2.bag, d2.seqT (.inl (.inl eN)), neN, by rw [okN.len]; exact t4, oN, fun c cs H3 hc hcs tcs d3 good asc => ⟨few_line (by simp), fun r hr => ?_⟩⟩
        have hD3 := same_new (o := .tup [V.str k, V.ref c]) hr _ _ (d3.kp _ _ nD hD2)
        have hv3 : DqA K (upd H3 r (.tup [V.str k, V.ref c])) vs (tabs.map tabD) := (hv2.dr d3 (tup_tabs _)).mono (same_new hr)
        have lv : vs.length ≤ ks.length := by
          have e1 := hv2.length
          have e2 := congrArg List.length ek
          rw [List.length_map] at e1 e2
          rw [List.length_take] at e2
          omega
        have tD : Dq K (upd H3 r (.tup [V.str k, V.ref c])) (.ref r) (tabD (k, cs.map (·.2))) :=
          .tup (.inl (.inl upd_same)) (.cons (.str k) (.cons (.tup (.inl (.inl (same_new hr _ _ hcs))) (rows_is (tcs.same (same_new hr)))) .nil))
        refine ⟨vs, hD3, fewer (by have := okW.len; omega), ((d2.trans d3).trans (Dr.new d3.bag hr)).wr hD, vs ++ [.ref r], tabs ++ [(k, cs.map (·.2))], upd_same, ?_, ?_, fun t m => ?_⟩
        · rw [List.map_append]
          exact (DqA.wr hD3 hv3 (tup_tabs _)).append (.cons (Dq.wr hD3 tD (by have := tup_tabs [(k, cs.map (·.2))]; simpa [tupDs] using this)) .nil)
        · rw [take_step hk, List.map_append, ek]
          rfl
        · rcases List.mem_append.mp m with m | m
          · exact gd t m
          · rw [List.mem_singleton.mp m]
            obtain ⟨ls, e⟩ := asc
            exact ⟨good, ls, by rw [e]⟩
      · rintro H2 ⟨d2, vs, tabs, hD2, hv2, ek, gd⟩
        rw [List.length_map, List.take_length] at ek
        refine ⟨D, vs, rfl, .inl (.inl hD2), fun tb oo htb hcl hdc => ⟨few_line (by simp), fun p10 hp10 => ?_⟩⟩
        have s23 : Same H2 (upd (upd H2 tb (.frz oo (.tup vs))) p10 (.lst [])) := (same_new htb).trans (same_new hp10)
        have d3 := d2.trans (Dr.same d2.bag s23)
        have hT3 : TbA K (upd (upd H2 tb (.frz oo (.tup vs))) p10 (.lst [])) (.ref tb) tabs := ⟨tb, vs, rfl, ⟨oo, (by rw [upd_ne (ne_of_none upd_same hp10), upd_same]), hcl, hdc⟩, hv2.mono s23⟩
        have h10 : (upd (upd H2 tb (.frz oo (.tup vs))) p10 (.lst [])) p10 = some (.lst (refsOf ([] : List (Addr × List Str)))) := upd_same
        have f10 : H1 p10 = none := d2.free (Same.free (same_new htb) hp10)
        have n10 : p10 ≠ b := d1.bag.ne f10
        generalize upd (upd H2 tb (.frz oo (.tup vs))) p10 (.lst []) = H3 at d3 hT3 h10 ⊢
        have fin : ∀ (H4 : Hp) (y11 : Option V) (tk : List (Addr × List Str)), H4 p10 = some (.lst (refsOf tk)) → Tups K H4 tk → (∀ q ∈ tk, ∃ k ∈ ks, ∃ x ∈ ps, ∃ y ∈ ps, q.2 = [k, x, y]) → tk.length ≤ 40 → Dr b H1 H4 → TbA K H4 (.ref tb) tabs →
            tD { nx := fun _ H' => Q .non H', rt := Q } [some (.ref b), some (.int nt), some (.int nk), some (.int nm), some (.int most), some (.ref p5), some (.ref pN), some (.ref pP), some (.ref pW), some (.ref tb), some (.ref p10), y11, none, none, none] H4 := by
          intro H4 y11 tk h1 h2 h3 h4 d14 hT4
          exact qD H4 pN tb pP pW p10 (some (.ref p5)) y11 ns ps ks tabs tk (row_is (d14.seqT (.inl (.inl eN)))) hT4 (row_is (d14.seqT (.inl (.inl eP)))) h1 h2 h3 h4 n10 okN okP okW ek gd (d1.trans d14)
        refine ⟨_, rfl, _, _, rfl, rfl, _, rfl, ite2 (fun hpos => ?_) (fun _ => ?_)⟩
        · have k1 : 1 ≤ nk := by
            have := of_decide_eq_true hpos
            omega
          have neK : ks ≠ [] := fun z => by
            have := okW.len
            rw [z] at this
            simp only [List.length_nil] at this
            omega
          have neP : ps ≠ [] := fun z => by
            have := okP.len
            rw [z] at this
            simp only [List.length_nil] at this
            omega
          refine ⟨.ref b, rfl, .int most, rfl, .ref b, rfl, .int most, rfl, _, _, rfl, rfl, b, (most : Int) + 1, rfl, d3.bag, by omega, by omega, fun v H4 v0 v1 k4 g4 => ⟨few_line (by simp), fun pL hpL => ?_⟩⟩
          have d34 := (Dr.mk k4 g4)
          refine ⟨b, pL, _, rfl, (Dr.new d34.bag hpL).bag, .inl ⟨.inl (.inl upd_same), d34.bag.ne hpL⟩, by simp, by simp, fun u H5 hu k5 g5 => ?_⟩
          have d35 := (d34.trans (Dr.new d34.bag hpL)).trans (Dr.mk k5 g5)
          obtain ⟨n, hn, rfl⟩ : ∃ n : Nat, n ≤ 40 ∧ u = .int n := by
            simp only [List.mem_cons, List.not_mem_nil, or_false] at hu
            rcases hu with rfl | rfl | rfl | rfl
            · exact ⟨1, by decide, rfl⟩
            · exact ⟨2, by decide, rfl⟩
            · exact ⟨most, by omega, rfl⟩
            · exact ⟨v.toNat, by omega, by rw [Int.toNat_of_nonneg v0]⟩
          refine ⟨(n : Int), rfl, by omega, by omega, for_range (lo := 0) (n := (n : Int).toNat) (fun i σ H' => (∃ y11, σ = [some (.ref b), some (.int nt), some (.int nk), some (.int nm), some (.int most), some (.ref p5), some (.ref pN), some (.ref pP), some (.ref pW), some (.ref tb), some (.ref p10), y11, none, none, none]) ∧
              ∃ tk : List (Addr × List Str), H' p10 = some (.lst (refsOf tk)) ∧ Tups K H' tk ∧ (∀ q ∈ tk, ∃ k ∈ ks, ∃ x ∈ ps, ∃ y ∈ ps, q.2 = [k, x, y]) ∧ tk.length ≤ i ∧ Dr b H1 H' ∧ TbA K H' (.ref tb) tabs)
            ⟨⟨_, rfl⟩, [], d35.kp _ _ n10 h10, fun _ z => (by cases z), fun _ z => (by cases z), Nat.le_refl _, d3.trans d35, hT3.dr d35⟩ ?_ ?_⟩
          · rintro i σ H6 hi ⟨⟨y11, rfl⟩, tk, h10', tk6, pr6, l6, d6, hT6⟩
            have wd : SqL K H6 pW (ks.map V.str) := d6.seqL nW (.inl (.inl eW))
            have pd : SqT K H6 pP (ps.map V.str) := d6.seqT (.inl (.inl eP))
            refine ⟨.ref p10, rfl, .inl ⟨rfl, _, .inl (.inl h10')⟩, .ref b, rfl, .ref pW, rfl, b, pW, ks.map V.str, rfl, d6.bag, .inl ⟨wd, nW⟩, by rw [List.length_map]; exact List.length_pos_iff.mpr neK, by rw [List.length_map, okW.len]; omega, fun v1 H7 hv1 k7 g7 => ?_⟩
            obtain ⟨k, mk, rfl⟩ := List.mem_map.mp hv1
            have d67 := Dr.mk k7 g7
            refine ⟨.ref b, rfl, .ref pP, rfl, b, pP, ps.map V.str, rfl, d67.bag, .inr (d67.seqT pd), by rw [List.length_map]; exact List.length_pos_iff.mpr neP, by rw [List.length_map, okP.len]; omega, fun v2 H8 hv2 k8 g8 => ?_⟩
            obtain ⟨x, mx, rfl⟩ := List.mem_map.mp hv2
            have d68 := d67.trans (Dr.mk k8 g8)
            refine ⟨.ref b, rfl, .ref pP, rfl, b, pP, ps.map V.str, rfl, d68.bag, .inr (d68.seqT pd), by rw [List.length_map]; exact List.length_pos_iff.mpr neP, by rw [List.length_map, okP.len]; omega, fun v3 H9 hv3 k9 g9 => ?_⟩
            obtain ⟨y, my, rfl⟩ := List.mem_map.mp hv3
            have d69 := d68.trans (Dr.mk k9 g9)
            refine ⟨few_line (by simp), fun r hr => ?_⟩
            have h10'' : (upd H9 r (.tup [V.str k, V.str x, V.str y])) p10 = some (.lst (refsOf tk)) := same_new hr _ _ (d69.kp _ _ n10 h10')
            have t9 : Tups K (upd H9 r (.tup [V.str k, V.str x, V.str y])) tk := Tups.same (Tups.dr tk6 d69) (same_new hr)
            refine ⟨p10, refsOf tk, .ref r, rfl, rfl, h10'', fewer (by rw [refs_len]; omega), ⟨_, rfl⟩, tk ++ [(r, [k, x, y])], by rw [upd_same, refs_app]; rfl, tups_wr h10'' (t9.app fun q m => ?_), fun q m => ?_, by rw [List.length_append]; simp; omega, ((d6.trans d69).trans (Dr.new d69.bag hr)).wr f10, TbA.wr h10'' ((hT6.dr d69).mono (same_new hr))⟩
            · rw [List.mem_singleton.mp m]
              exact .inl (.inl upd_same)
            · rcases List.mem_append.mp m with m | m
              · exact pr6 q m
              · rw [List.mem_singleton.mp m]
                exact ⟨k, mk, x, mx, y, my, rfl⟩
          · rintro σ H6 ⟨⟨y11, rfl⟩, tk, h10', tk6, pr6, l6, d6, hT6⟩
            exact fin H6 y11 tk h10' tk6 pr6 (by simp at l6; omega) d6 hT6
        · exact ⟨0, rfl, by decide, by decide, for_range (lo := 0) (n := (0 : Int).toNat) (fun i σ H' => σ = [some (.ref b), some (.int nt), some (.int nk), some (.int nm), some (.int most), some (.ref p5), some (.ref pN), some (.ref pP), some (.ref pW), some (.ref tb), some (.ref p10), none, none, none, none] ∧ H' = H3)
            ⟨rfl, rfl⟩ (fun i σ H' hi => absurd hi (Nat.not_lt_zero _)) (fun σ H' hh => by
              obtain ⟨rfl, rfl⟩ := hh
              exact fin _ none [] h10 (fun _ z => (by cases z)) (fun _ z => (by cases z)) (by decide) d3 hT3)⟩
    refine ⟨_, PSs.nox (pss_cons (ps_set (i := 5) scWof.nd rfl (.inl rfl) (pe_call GS r2 (by rfl) gS FS.kp bS .nil pass0 (pa_cons (pv 0) (pa_cons (pe_op op_cat (pe_op op_rep (pe_lst (pa_cons (pe_lst (pa_cons pe_str (pa_cons pe_str (pa_cons pe_str (pa_cons pe_str (pa_cons pe_str (pa_cons pe_str pa_nil))))))) pa_nil)) pe_int)
          (pe_lst (pa_cons (pe_lst (pa_cons pe_str (pa_cons pe_str (pa_cons pe_str (pa_cons pe_str (pa_cons pe_str (pa_cons pe_str pa_nil))))))) pa_nil))) pa_nil))))
      (pss_cons (ps_set (i := 6) scWof.nd rfl (.inr rfl) (pe_callTy call_tuple_of (by rfl) mt (by decide +kernel) (pa_cons (pe_callB cr_sortedS (by rfl) ms (by decide +kernel) (pa_cons (pe_slice sl_list (pe_call GM r2 (by rfl) gM FM.kp bM .nil pass0 (pa_cons (pv 0) (pa_cons (pv 5) pa_nil))) po_none (po_some (pv 1))) pa_nil)) pa_nil)))
      (pss_cons (ps_set (i := 7) scWof.nd rfl (.inl rfl) (pe_callTy call_tuple_of (by rfl) mt (by decide +kernel) (pa_cons (pe_callB cr_sortedS (by rfl) ms (by decide +kernel) (pa_cons (pe_slice sl_list (pe_call GM r2 (by rfl) gM FM.kp bM .nil pass0 (pa_cons (pv 0) (pa_cons (pe_lst (pa_cons pe_str (pa_cons pe_str (pa_cons pe_str (pa_cons pe_str pa_nil))))) pa_nil))) po_none (po_some (pv 3))) pa_nil)) pa_nil)))
      (pss_cons (ps_set (i := 8) scWof.nd rfl (.inl rfl) (pe_callB cr_sortedS (by rfl) ms (by decide +kernel) (pa_cons (pe_slice sl_list (pe_call GM r2 (by rfl) gM FM.kp bM .nil pass0 (pa_cons (pv 0) (pa_cons (pe_lst (pa_cons pe_str (pa_cons pe_str (pa_cons pe_str (pa_cons pe_str pa_nil))))) pa_nil))) po_none (po_some (pv 2))) pa_nil))) hC)))), ?_⟩
    refine ⟨.ref b, rfl, few_line (by simp), fun p1 hp1 => ⟨few_line (by simp), fun p2 hp2 => ⟨p2, 5, [.ref p1], rfl, rfl, upd_same, by decide, by decide, few_line (by simp), fun p3 hp3 => ⟨few_line (by simp), fun p4 hp4 => ⟨few_line (by simp), fun p5 hp5 => ?_⟩⟩⟩⟩⟩
    have s3 := same_new (o := .lst (List.replicate (5 : Int).toNat [V.ref p1]).flatten) hp3
    have s4 := same_new (o := .lst (poolB.map V.str)) hp4
    have s5 := same_new (o := .lst [V.ref p4]) hp5
    have e3 := s5 _ _ (s4 _ _ (upd_same (H := upd (upd H p1 (.lst (poolA.map V.str))) p2 (.lst [V.ref p1])) (a := p3) (o := .lst (List.replicate (5 : Int).toNat [V.ref p1]).flatten)))
    refine ⟨p3, p5, _, _, rfl, rfl, e3, upd_same, few_line (by simp), fun p6 hp6 => ?_⟩
    have s6 := same_new (o := .lst ((List.replicate (5 : Int).toNat [V.ref p1]).flatten ++ [V.ref p4])) hp6
    have sF := (((((same_new (o := .lst (poolA.map V.str)) hp1).trans (same_new (o := .lst [V.ref p1]) hp2)).trans s3).trans s4).trans s5).trans s6
    have q1 := s6 _ _ (s5 _ _ (s4 _ _ (s3 _ _ (same_new (o := .lst [V.ref p1]) hp2 _ _ (upd_same (H := H) (a := p1) (o := .lst (poolA.map V.str)))))))
    have q4 := s6 _ _ (s5 _ _ (upd_same (H := upd (upd (upd H p1 (.lst (poolA.map V.str))) p2 (.lst [V.ref p1])) p3 (.lst (List.replicate (5 : Int).toNat [V.ref p1]).flatten)) (a := p4) (o := .lst (poolB.map V.str))))
    have dF : Dr b H _ := Dr.same hB sF
    have n1 : p1 ≠ b := hB.ne hp1
    have n4 : p4 ≠ b := hB.ne (Same.free (((same_new (o := .lst (poolA.map V.str)) hp1).trans (same_new (o := .lst [V.ref p1]) hp2)).trans s3) hp4)
    have n6 : p6 ≠ b := hB.ne (Same.free (((((same_new (o := .lst (poolA.map V.str)) hp1).trans (same_new (o := .lst [V.ref p1]) hp2)).trans s3).trans s4).trans s5) hp6)
    refine ⟨b, p6, _, rfl, dF.bag, .inl ⟨.inl (.inl upd_same), n6⟩, by simp, by simp, fun v H1 hv k1 g1 => ?_⟩
    obtain ⟨pl, ss, rfl, hpl, nl, lss, ndss, ofss⟩ : ∃ (pl : Addr) (ss : List Str), v = V.ref pl ∧ H1 pl = some (.lst (ss.map V.str)) ∧ pl ≠ b ∧ ss.length = 6 ∧ ss.Nodup ∧ ∀ x ∈ ss, x ∈ poolA ++ poolB := by
      rcases List.mem_append.mp hv with m | m
      · have e : v = V.ref p1 := by simpa using m
        exact ⟨p1, poolA, e, k1 _ _ n1 q1, n1, rfl, pools.1, fun x m => List.mem_append_left _ m⟩
      · have e : v = V.ref p4 := by simpa using m
        exact ⟨p4, poolB, e, k1 _ _ n4 q4, n4, rfl, pools.2.1, fun x m => List.mem_append_right _ m⟩
    have d1 : Dr b H H1 := dF.trans ⟨k1, g1⟩
    clear hv q1 q4 e3
    -- names
    refine ⟨.ref b, rfl, .ref pl, rfl, b, pl, ss.map V.str, rfl, d1.bag, .inl (.inl hpl), nl, by rw [List.length_map]; omega, fun pA ysA G1 pmA hpA heA dA => ⟨.int nt, rfl, nt, rfl, pA, ysA, rfl, .inl (.inl heA), fun qA hqA => ?_⟩⟩
    obtain ⟨usA, rfl, puA⟩ := perm_strs pmA
    rw [cut_take', ← List.map_take]
    refine ⟨qA, usA.take nt, rfl, .inl (.inl upd_same), by rw [List.length_take, puA.length_eq]; omega, fun zsA rA pzA hzA hrA => ?_⟩
    have hnsA := names_of puA ndss ofss (by omega) pzA hzA
    have ddA := (dA.trans (Dr.new dA.bag hqA)).trans (Dr.new (o := .lst (zsA.map V.str)) (Dr.new dA.bag hqA).bag hrA)
    have frA := dA.free (Same.free (same_new hqA) hrA)
    refine ⟨rA, _, rfl, .inl ⟨.inl (.inl upd_same), fun pN hpN => ?_⟩⟩
    have d3 := (d1.trans ddA).trans (Dr.new (o := .tup (zsA.map V.str)) (d1.trans ddA).bag hpN)
    have eN : (upd (upd (upd G1 qA (.lst ((usA.take nt).map V.str))) rA (.lst (zsA.map V.str))) pN (.tup (zsA.map V.str))) pN = some (.tup (zsA.map V.str)) := upd_same
    generalize upd (upd (upd G1 qA (.lst ((usA.take nt).map V.str))) rA (.lst (zsA.map V.str))) pN (.tup (zsA.map V.str)) = H3 at d3 eN ⊢
    -- places
    refine ⟨.ref b, rfl, few_line (by simp), fun l1 hl1 => ⟨b, l1, placesA.map V.str, rfl, (Dr.new d3.bag hl1).bag, .inl (.inl upd_same), d3.bag.ne hl1, by decide, fun pB ysB G2 pmB hpB heB dB => ⟨.int nm, rfl, nm, rfl, pB, ysB, rfl, .inl (.inl heB), fun qB hqB => ?_⟩⟩⟩
    obtain ⟨usB, rfl, puB⟩ := perm_strs pmB
    rw [cut_take', ← List.map_take]
    refine ⟨qB, usB.take nm, rfl, .inl (.inl upd_same), by rw [List.length_take, puB.length_eq]; (have : placesA.length = 4 := rfl); omega, fun zsB rB pzB hzB hrB => ?_⟩
    have hnsB := names_of puB pools.2.2.1 (fun _ m => m) m4 pzB hzB
    have ddB := (dB.trans (Dr.new dB.bag hqB)).trans (Dr.new (o := .lst (zsB.map V.str)) (Dr.new dB.bag hqB).bag hrB)
    have frB := dB.free (Same.free (same_new hqB) hrB)
    refine ⟨rB, _, rfl, .inl ⟨.inl (.inl upd_same), fun pP hpP => ?_⟩⟩
    have d5 := ((Dr.new (o := .lst (placesA.map V.str)) d3.bag hl1).trans ddB).trans (Dr.new (o := .tup (zsB.map V.str)) ddB.bag hpP)
    have eP : (upd (upd (upd G2 qB (.lst ((usB.take nm).map V.str))) rB (.lst (zsB.map V.str))) pP (.tup (zsB.map V.str))) pP = some (.tup (zsB.map V.str)) := upd_same
    have eN5 := d5.kp _ _ (tup_ne d3.bag eN) eN
    generalize upd (upd (upd G2 qB (.lst ((usB.take nm).map V.str))) rB (.lst (zsB.map V.str))) pP (.tup (zsB.map V.str)) = H5 at d5 eP eN5 ⊢
    -- words
    refine ⟨.ref b, rfl, few_line (by simp), fun l2 hl2 => ⟨b, l2, wordsA.map V.str, rfl, (Dr.new d5.bag hl2).bag, .inl (.inl upd_same), d5.bag.ne hl2, by decide, fun pC ysC G3 pmC hpC heC dC => ⟨.int nk, rfl, nk, rfl, pC, ysC, rfl, .inl (.inl heC), fun qC2 hqC => ?_⟩⟩⟩
    obtain ⟨usC, rfl, puC⟩ := perm_strs pmC
    rw [cut_take', ← List.map_take]
    refine ⟨qC2, usC.take nk, rfl, .inl (.inl upd_same), by rw [List.length_take, puC.length_eq]; (have : wordsA.length = 4 := rfl); omega, fun zsC rC pzC hzC hrC => ?_⟩
    have hnsC := names_of puC pools.2.2.2 (fun _ m => m) k4 pzC hzC
    have ddC := (dC.trans (Dr.new dC.bag hqC)).trans (Dr.new (o := .lst (zsC.map V.str)) (Dr.new dC.bag hqC).bag hrC)
    have frC := dC.free (Same.free (same_new hqC) hrC)
    have d7 := (Dr.new (o := .lst (wordsA.map V.str)) d5.bag hl2).trans ddC
    have hW5 : H5 rC = none := Same.free (same_new hl2) frC
    exact qC _ pN pP rC pl zsA zsB zsC (d7.kp _ _ (tup_ne d5.bag eN5) eN5) (d7.kp _ _ (tup_ne d5.bag eP) eP) upd_same (d5.bag.ne hW5) ((d3.trans d5).free hW5) hnsA hnsB hnsC ((d3.trans d5).trans d7)
end
end K01

namespace K01
open PySem PySem.Spec PyProof.Rows L2 Ly
section
variable {P : Program} {w : World} {K : PySem.W.Frag} {mg : Str → Option Value} {base : Heap} {f fT fS fC fI fM fL fW : Addr} {fd fdT fdS fdC fdI fdM fdL fdW : FuncData}
theorem scWld : FnScope ["bag", "tiles", "kinds"] ["bag"] (defScope (topS i_law_world)) := ⟨rfl, rfl, rfl, by decide +kernel, rfl, by decide +kernel, by decide +kernel⟩
/-- a drawn WORLD -/
def spWld (K : PySem.W.Frag) : Sp := fun vs H Q _ => ∃ (b : Addr), vs = [.ref b] ∧ IsBag H b ∧ ∀ p W H', H p = none → WAt K H' p W → Dr b H H' → GoodW W → Q (.ref p) H'
theorem ok_wld (F : FnP K "_law_world" i_law_world f fd) (FW : FnP K "_law_world_of" i_law_world_of fW fdW) (gW : mg "_law_world_of" = some (.ref fW)) (FT : FnP K "_law_take" i_law_take fT fdT) (gT : mg "_law_take" = some (.ref fT)) (FS : FnP K "_law_some" i_law_some fS fdS) (gS : mg "_law_some" = some (.ref fS))
    (FI : FnP K "_law_is_couple" i_law_is_couple fI fdI) (gI : mg "_law_is_couple" = some (.ref fI)) (FC : FnP K "_law_couples" i_law_couples fC fdC) (gC : mg "_law_couples" = some (.ref fC))
    (FM : FnP K "_law_mixed" i_law_mixed fM fdM) (gM : mg "_law_mixed" = some (.ref fM)) (FL : FnP K "_law_lots" i_law_lots fL fdL) (gL : mg "_law_lots" = some (.ref fL))
    (mi : mg "int" = none) (ma : mg "abs" = none) (ml : mg "len" = none) (me : mg "enumerate" = none) (mt : mg "tuple" = none) (ms : mg "sorted" = none) (mz : mg "set" = none) (mr : mg "range" = none) :
    FnOk P w K mg base CX0 5 f fd ["bag"] (spWld K) := by
  have GS : FnOk P w K mg base CX0 2 fS fdS ["bag", "things"] (spSome K) := ok_some FS FT gT mi ml
  have bS : Binds K fdS ["bag", "things"] [] := FS.bindsN fun _ _ _ _ _ _ us hl => match us, hl with | [_, _], _ => rfl
  have GW : FnOk P w K mg base CX0 4 fW fdW ["bag", "tiles", "kinds", "marks", "most"] (spWof K) := ok_wof FW FT gT FS gS FI gI FC gC FM gM FL gL mi ma ml me mt ms mz mr
  have bW : Binds K fdW ["bag", "tiles", "kinds", "marks", "most"] [] := FW.bindsN fun _ _ _ _ _ _ us hl => match us, hl with | [_, _, _, _, _], _ => rfl
  refine F.ok scWld (fun vs H Q E h => ?_) (fun cd A outer s H vs Q E hr h => ?_)
  · obtain ⟨b, rfl, _⟩ := h
    rfl
  · obtain ⟨b, rfl, hB, hQ⟩ := h
    have r2 : Room 2 _ := hr.mono (by decide)
    refine ⟨_, PSs.nox (pss_cons (ps_par (i := 1) (j := 2) rfl scWld.nd rfl rfl (by decide) rfl rfl
        (pa_cons (pe_call GS r2 (by rfl) gS FS.kp bS .nil pass0 (pa_cons (pv 0) (pa_cons (pe_lst (pa_cons pe_int (pa_cons pe_int (pa_cons pe_int (pa_cons pe_int (pa_cons pe_int pa_nil)))))) pa_nil)))
        (pa_cons (pe_call GS r2 (by rfl) gS FS.kp bS .nil pass0 (pa_cons (pv 0) (pa_cons (pe_lst (pa_cons pe_int (pa_cons pe_int (pa_cons pe_int (pa_cons pe_int (pa_cons pe_int pa_nil)))))) pa_nil))) pa_nil)) (by rfl))
      (pss_one (ps_ret (pe_call GW hr (by rfl) gW FW.kp bW .nil pass0 (pa_cons (pv 0) (pa_cons (pv 1) (pa_cons (pv 2) (pa_cons (pe_call GS r2 (by rfl) gS FS.kp bS .nil pass0 (pa_cons (pv 0) (pa_cons (pe_lst (pa_cons pe_int (pa_cons pe_int (pa_cons pe_int (pa_cons pe_int (pa_cons pe_int pa_nil)))))) pa_nil))) (pa_cons pe_int pa_nil))))))))), ?_⟩
    have num : ∀ {l : List Int} {v : V} (lo : Nat), v ∈ l.map V.int → (∀ i ∈ l, (lo : Int) ≤ i ∧ i ≤ 4) → ∃ n : Nat, lo ≤ n ∧ n ≤ 4 ∧ v = .int n := fun {l v} lo m h => by
      obtain ⟨i, mi, rfl⟩ := List.mem_map.mp m
      obtain ⟨h1, h2⟩ := h i mi
      exact ⟨i.toNat, by omega, by omega, by rw [Int.toNat_of_nonneg (by omega)]⟩
    refine ⟨.ref b, rfl, few_line (by simp), fun p1 hp1 => ⟨b, p1, _, rfl, (Dr.new hB hp1).bag, .inl ⟨.inl (.inl upd_same), hB.ne hp1⟩, by simp, by simp, fun v1 H1 hv1 k1 g1 => ?_⟩⟩
    obtain ⟨nt, t1, t4, rfl⟩ := num (l := [2, 3, 3, 4, 1]) 1 hv1 (by decide)
    have d1 := (Dr.new hB hp1).trans (Dr.mk k1 g1)
    refine ⟨.ref b, rfl, few_line (by simp), fun p2 hp2 => ⟨b, p2, _, rfl, (Dr.new d1.bag hp2).bag, .inl ⟨.inl (.inl upd_same), d1.bag.ne hp2⟩, by simp, by simp, fun v2 H2 hv2 k2 g2 => ?_⟩⟩
    obtain ⟨nk, _, k4, rfl⟩ := num (l := [1, 1, 2, 3, 0]) 0 hv2 (by decide)
    have d2 := (d1.trans (Dr.new d1.bag hp2)).trans (Dr.mk k2 g2)
    refine ⟨_, _, rfl, .ref b, rfl, .int nt, rfl, .int nk, rfl, .ref b, rfl, few_line (by simp), fun p3 hp3 => ⟨b, p3, _, rfl, (Dr.new d2.bag hp3).bag, .inl ⟨.inl (.inl upd_same), d2.bag.ne hp3⟩, by simp, by simp, fun v3 H3 hv3 k3 g3 => ?_⟩⟩
    obtain ⟨nm, m1, m4, rfl⟩ := num (l := [1, 1, 2, 3, 4]) 1 hv3 (by decide)
    have d3 := (d2.trans (Dr.new d2.bag hp3)).trans (Dr.mk k3 g3)
    exact ⟨b, nt, nk, nm, 6, rfl, d3.bag, t1, t4, k4, m1, m4, by decide, fun p W H4 hp hW d4 gW => hQ p W H4 (d3.free hp) hW (d3.trans d4) gW⟩
end
end K01

namespace K01
open PySem PySem.Spec PyProof.Rows L2 Ly
section
variable {P : Program} {w : World} {K : PySem.W.Frag} {mg : Str → Option Value} {base : Heap} {f : Addr} {fd : FuncData}
abbrev nmT : List Str := ["world", "found", "one", "meets", "other", "tile", "lot"]
theorem scTold : FnScope nmT ["world"] (defScope (topS i_law_told)) := ⟨rfl, rfl, rfl, by decide +kernel, rfl, by decide +kernel, by decide +kernel⟩
/-- the TOLD LOTS, in order -/
def spTold (K : PySem.W.Frag) : Sp := fun vs H Q _ => ∃ (p : Addr) (v0 v1 v2 v3 v4 : V) (ts : List Str) (told : List (List Str)), vs = [.ref p] ∧ SqT K H p [v0, v1, v2, v3, v4] ∧ Dq K H v0 (rowD ts) ∧ Dq K H v4 (.tuple (told.map rowD)) ∧
  ts ≠ [] ∧ ts.length ≤ 4 ∧ Oks ts ∧ (∀ r ∈ told, r ≠ [] ∧ r.Sublist ts) ∧ told.length ≤ 20 ∧
  ∀ l ks H', H l = none → H' l = some (.lst (refsOf ks)) → Tups K H' ks → Same H H' → (ks.map (·.2)).Nodup → (∀ r, r ∈ ks.map (·.2) ↔ Meets (told ++ [ts] ++ ts.map fun t => [t]) r) → (∃ ls : List (Addr × List Str), ks = ls.mergeSort leT) → Q (.ref l) H'
theorem ok_told (F : FnP K "_law_told" i_law_told f fd) (mt : mg "tuple" = none) (ms : mg "sorted" = none) (mz : mg "set" = none) (mL : mg "list" = none) : FnOk P w K mg base CX0 1 f fd ["world"] (spTold K) := by
  refine F.ok scTold (fun vs H Q E h => ?_) (fun cd A outer s H vs Q E hr h => ?_)
  · obtain ⟨p, v0, v1, v2, v3, v4, ts, told, rfl, _⟩ := h
    rfl
  · obtain ⟨p, v0, v1, v2, v3, v4, ts, told, rfl, hp, h0, h4, ne, l4, ho, tsub, tfew, hQ⟩ := h
    refine ⟨_, PSs.nox (pss_cons (ps_set (i := 1) scTold.nd rfl (.inl rfl) (pe_callB (call_sortQ rfl (hu64 hr)) (by rfl) ms (by decide +kernel) (pa_cons (pe_callTy (call_setQ rfl (hu64 hr)) (by rfl) mz (by decide +kernel) (pa_cons
        (pe_op op_cat (pe_op op_cat (pe_callTy call_list_of (by rfl) mL (by decide +kernel) (pa_cons (pe_ix ix_tup (pv 0) pe_int (fun _ _ => rfl)) pa_nil)) (pe_lst (pa_cons (pe_ix ix_tup (pv 0) pe_int (fun _ _ => rfl)) pa_nil)))
          (pe_lc (own := [("tile", 5)]) (g := gName 5) (tt := tYes) (te := tTup (tCons (tVar 5) tNil)) rfl scTold.nd (pi_tup (pe_ix ix_tup (pv 0) pe_int (fun _ _ => rfl))) (blkOk_by (N := nmT) (sc := defScope (topS i_law_told)) (by decide +kernel))
            (fun _ _ _ _ _ => pg_name (i := 5) scTold.nd rfl (Or.inl rfl)) (fun _ _ _ _ _ => pts_nil) (fun _ _ _ _ _ => pe_tup (pa_cons (pv 5) pa_nil)))) pa_nil)) pa_nil)))
      (pss_cons (ps_for PassesOwn.never rfl (pi_list (pe_callTy call_list_of (by rfl) mL (by decide +kernel) (pa_cons (pv 1) pa_nil))) (pg_name (i := 2) scTold.nd rfl (.inr rfl))
        (pss_cons (ps_setLc (i := 3) (own := [("other", 4)]) (g := gName 4) (tt := tYes) (te := tCB (fun xs H Q => ∃ p ys, xs = [.ref p] ∧ ((SqL K H p ys ∧ ∀ l, H l = none → Q (.ref l) (upd H l (.tup ys))) ∨ (SqT K H p ys ∧ Q (.ref p) H)))
              (tCons (tLc (iTup K (tVar 4)) (gName 5) (tTest (tOp (rIn K false) (tVar 5) (tVar 2))) (tVar 5) [5]) tNil)) rfl scTold.nd rfl rfl (sw_true rfl rfl rfl (by decide +kernel)) (pi_list (pv 1)) (blkOk_by (N := nmT) (sc := defScope (topS i_law_told)) (by decide +kernel))
            (fun _ _ _ _ _ => pg_name (i := 4) scTold.nd rfl (Or.inl rfl)) (fun _ _ _ _ _ => pts_nil)
            (fun _ _ _ _ _ => pe_callTy call_tuple_of (by rfl) mt (by decide +kernel) (pa_cons (pe_lc (own := [("tile", 5)]) (g := gName 5) (tt := tTest (tOp (rIn K false) (tVar 5) (tVar 2))) (te := tVar 5) rfl scTold.nd (pi_tup (pv 4)) (blkOk_by (N := nmT) (sc := { kind := .function, names := [(".0", .local), ("other", .local), ("tuple", .globalImplicit), ("one", .cell)], isGenerator := false, isCoroutine := false }) (by decide +kernel))
              (fun _ _ _ _ _ => pg_name (i := 5) scTold.nd rfl (Or.inl rfl)) (fun _ _ _ _ _ => pts_one (pt_cmpR op_in_seq (pv 5) (pv 2) rfl)) (fun _ _ _ _ _ => pv 5)) pa_nil)))
        (pss_one (ps_set (i := 1) scTold.nd rfl (.inl rfl) (pe_callB (call_sortQ rfl (hu64 hr)) (by rfl) ms (by decide +kernel) (pa_cons (pe_callTy (call_setQ rfl (hu64 hr)) (by rfl) mz (by decide +kernel) (pa_cons (pe_op op_cat (pv 1)
          (pe_lc (own := [("lot", 6)]) (g := gName 6) (tt := tTest (tOp (rNeQ K) (tVar 6) (tTup tNil))) (te := tVar 6) rfl scTold.nd (pi_list (pv 3)) (blkOk_by (N := nmT) (sc := defScope (topS i_law_told)) (by decide +kernel))
            (fun _ _ _ _ _ => pg_name (i := 6) scTold.nd rfl (Or.inl rfl)) (fun _ _ _ _ _ => pts_one (pt_cmpR (op_neQ (hu64 hr)) (pv 6) (pe_tup pa_nil) (nomark _))) (fun _ _ _ _ _ => pv 6))) pa_nil)) pa_nil))))))
      (pss_one (ps_ret (pv 1))))), ?_⟩
    obtain ⟨p4, vs4, rfl, sq4, da4⟩ := h4.tup_of
    obtain ⟨kt, rfl, tkt, rfl⟩ := rows_of da4
    obtain ⟨a0, rfl, sq0⟩ := row_of h0
    have lenT : (ts.map V.str).length ≤ 4 := by
      rw [List.length_map]
      exact l4
    have lkt : kt.length ≤ 20 := by
      rw [List.length_map] at tfew
      exact tfew
    refine ⟨.ref p, rfl, p, _, 4, .ref p4, rfl, rfl, hp, rfl, p4, _, rfl, .inr sq4, fun la hla => ⟨.ref p, rfl, p, _, 0, .ref a0, rfl, rfl, Same.seqT (same_new hla) hp, rfl, few_line (by simp), fun lb hlb => ?_⟩⟩
    have nab : la ≠ lb := ne_of_none upd_same hlb
    refine ⟨la, lb, refsOf kt, [.ref a0], rfl, rfl, by rw [upd_ne nab, upd_same], upd_same, few_line (by rw [refs_len]; simp; omega), fun lc hlc => ?_⟩
    have s3 : Same H (upd (upd (upd H la (.lst (refsOf kt))) lb (.lst [V.ref a0])) lc (.lst (refsOf kt ++ [V.ref a0]))) := ((same_new hla).trans (same_new hlb)).trans (same_new hlc)
    have hlc3 : (upd (upd (upd H la (.lst (refsOf kt))) lb (.lst [V.ref a0])) lc (.lst (refsOf kt ++ [V.ref a0]))) lc = some (.lst (refsOf kt ++ [V.ref a0])) := upd_same
    generalize upd (upd (upd H la (.lst (refsOf kt))) lb (.lst [V.ref a0])) lc (.lst (refsOf kt ++ [V.ref a0])) = H3 at s3 hlc3 ⊢
    refine ⟨.ref p, rfl, p, _, 0, .ref a0, rfl, rfl, Same.seqT s3 hp, rfl, a0, rfl, ⟨_, Same.seqT s3 sq0⟩, fun D hD => lc_tup (K := K) (a := a0) (xs := ts.map V.str)
      (fun j H' => Same H3 H' ∧ ∃ ls : List (Addr × List Str), H' D = some (.lst (refsOf ls)) ∧ Tups K H' ls ∧ ls.map (·.2) = (ts.take j).map fun t => [t])
      ⟨same_new hD, [], upd_same, fun _ z => (by cases z), by simp⟩ (fun j H' _ h' => Same.seqT (s3.trans h'.1) sq0) ?_ ?_⟩
    · rintro j x H4 hx ⟨s4, ls, hD4, tl4, el⟩
      obtain ⟨t, ht, rfl⟩ := str_at hx
      have ll : ls.length ≤ 4 := by
        have e := congrArg List.length el
        rw [List.length_map, List.length_map, List.length_take] at e
        omega
      refine ⟨rfl, .str t, rfl, few_line (by simp), fun T hT => ⟨refsOf ls, same_new hT _ _ hD4, fewer (by rw [refs_len]; omega), Same.wr (s4.trans (same_new hT)) hD, ls ++ [(T, [t])], by rw [upd_same, refs_app]; rfl, tups_wr (same_new hT _ _ hD4) ((tl4.same (same_new hT)).app fun q m => ?_), ?_⟩⟩
      · rw [List.mem_singleton.mp m]
        exact .inl (.inl upd_same)
      · rw [List.map_append, el, take_step ht, List.map_append]
        rfl
    rintro H4 ⟨s4, ls, hD4, tl4, el⟩
    rw [List.length_map, List.take_length] at el
    have ll : ls.length ≤ 4 := by
      have e := congrArg List.length el
      rw [List.length_map, List.length_map] at e
      omega
    have s04 := s3.trans s4
    refine ⟨lc, D, _, _, rfl, rfl, s4 _ _ hlc3, hD4, few_line (by rw [List.length_append, refs_len, refs_len]; simp; omega), fun le hle => ?_⟩
    have tb : Tups K H4 (kt ++ [(a0, ts)] ++ ls) := ((tkt.same s04).app (fun q m => by
      rw [List.mem_singleton.mp m]
      exact Same.seqT s04 sq0)).app tl4
    have bne : ∀ q ∈ kt ++ [(a0, ts)] ++ ls, q.2 ≠ [] ∧ q.2.Sublist ts := fun q m => by
      rcases List.mem_append.mp m with m | m
      · rcases List.mem_append.mp m with m | m
        · exact tsub q.2 (List.mem_map.mpr ⟨q, m, rfl⟩)
        · rw [List.mem_singleton.mp m]
          exact ⟨ne, List.Sublist.refl _⟩
      · have z : q.2 ∈ ls.map (·.2) := List.mem_map.mpr ⟨q, m, rfl⟩
        rw [el] at z
        obtain ⟨t, mt, e⟩ := List.mem_map.mp z
        rw [← e]
        exact ⟨by simp, List.singleton_sublist.mpr mt⟩
    have eb : (kt ++ [(a0, ts)] ++ ls).map (·.2) = kt.map (·.2) ++ [ts] ++ ts.map fun t => [t] := by
      rw [List.map_append, List.map_append, el]
      rfl
    refine ⟨le, kt ++ [(a0, ts)] ++ ls, rfl, .inl (.inl (by rw [upd_same, refs_app, refs_app]; rfl)), tb.same (same_new hle), by simp; omega, fun z L hz hL1 hL2 hL3 hL4 => ⟨z, L, rfl, upd_same, fun q m => Same.seqT ((same_new hle).trans (same_new hz)) (tb q (hL1 q m)), fun q m => (bne q (hL1 q m)).1, fun L' r pm hr => ?_⟩⟩
    have pm2 : (L'.mergeSort leT).Perm L := (List.mergeSort_perm _ _).trans pm
    have s5 := (((same_new (o := .lst (refsOf kt ++ [V.ref a0] ++ refsOf ls)) hle).trans (same_new (o := SetQ P w z L) hz)).trans (same_new (o := .lst (refsOf (L'.mergeSort leT))) hr))
    have hr5 : (upd (upd (upd H4 le (.lst (refsOf kt ++ [V.ref a0] ++ refsOf ls))) z (SetQ P w z L)) r (.lst (refsOf (L'.mergeSort leT)))) r = some (.lst (refsOf (L'.mergeSort leT))) := upd_same
    have t5 : Tups K (upd (upd (upd H4 le (.lst (refsOf kt ++ [V.ref a0] ++ refsOf ls))) z (SetQ P w z L)) r (.lst (refsOf (L'.mergeSort leT)))) (L'.mergeSort leT) := fun q m => Same.seqT s5 (tb q (hL1 q (pm2.mem_iff.mp m)))
    obtain ⟨F0, eF0⟩ : ∃ F0, F0 = L'.mergeSort leT := ⟨_, rfl⟩
    have nd0 : (F0.map (·.2)).Nodup := by
      rw [eF0]
      exact (pm2.map (·.2)).nodup_iff.mpr hL3
    have mem0 : ∀ r, r ∈ F0.map (·.2) ↔ r ∈ kt.map (·.2) ++ [ts] ++ ts.map fun t => [t] := fun r => by
      rw [eF0, (pm2.map (·.2)).mem_iff, ← eb]
      constructor
      · intro m
        obtain ⟨q, mq, rfl⟩ := List.mem_map.mp m
        exact List.mem_map.mpr ⟨q, hL1 q mq, rfl⟩
      · intro m
        obtain ⟨q, mq, rfl⟩ := List.mem_map.mp m
        exact hL2 q mq
    have sub0 : ∀ r ∈ F0.map (·.2), r ≠ [] ∧ r.Sublist ts := fun r m => by
      have m2 := (mem0 r).mp m
      rw [← eb] at m2
      obtain ⟨q, mq, rfl⟩ := List.mem_map.mp m2
      exact bne q mq
    refine ⟨.ref r, rfl, r, refsOf F0, rfl, .inl (.inl (.inl (by rw [eF0]; exact hr5))), fun l0 hl0 => ⟨l0, rfl, ⟨_, .inl (.inl upd_same)⟩, ?_⟩⟩
    have s6 := s5.trans (same_new (o := .lst (refsOf F0)) hl0)
    have h06 : (upd (upd (upd (upd H4 le (.lst (refsOf kt ++ [V.ref a0] ++ refsOf ls))) z (SetQ P w z L)) r (.lst (refsOf (L'.mergeSort leT)))) l0 (.lst (refsOf F0))) l0 = some (.lst (refsOf F0)) := upd_same
    have t6 := t5.same (same_new (o := .lst (refsOf F0)) hl0)
    have hr6 := same_new (o := .lst (refsOf F0)) hl0 _ _ hr5
    have fr : H r = none := Same.free ((s04.trans (same_new hle)).trans (same_new hz)) hr
    refine for_list (K := K) (xs := refsOf F0) (fun i σ H' => (∃ r y2 y3, σ = [some (.ref p), some (.ref r), y2, y3, none, none, none] ∧ H r = none ∧ ∃ ks : List (Addr × List Str), H' r = some (.lst (refsOf ks)) ∧ Tups K H' ks ∧ (ks.map (·.2)).Nodup ∧ (∀ c, c ∈ ks.map (·.2) ↔ MeetsK (F0.map (·.2)) i c) ∧ ∃ ls : List (Addr × List Str), ks = ls.mergeSort leT) ∧
        Same H H' ∧ H' l0 = some (.lst (refsOf F0)) ∧ Tups K H' F0)
      ⟨⟨r, _, _, rfl, fr, F0, by subst eF0; exact hr6, by subst eF0; exact t6, nd0, fun c => ?_, L', eF0⟩, s04.trans s6, h06, by subst eF0; exact t6⟩ (fun i σ H' _ h' => .inl (.inl h'.2.2.1)) ?_ ?_
    · rw [meetsK_zero]
      exact ⟨fun m => ⟨(sub0 c m).1, m⟩, fun h => h.2⟩
    · rintro i x σ H7 hx ⟨⟨r1, y2, y3, rfl, fr1, ks, hr7, tk7, nd7, mem7, ls7, els7⟩, s7, hl07, tF7⟩
      obtain ⟨q, hq, rfl⟩ := ref_at hx
      have mq := List.mem_of_getElem? hq
      have hB : (F0.map (·.2))[i]? = some q.2 := map_at hq
      have lks : ks.length ≤ 16 := by
        have := lots_few l4 nd7 (fun c m => meets_sub (fun r m => (sub0 r m).2) ((mem7 c).mp m))
        rwa [List.length_map] at this
      have sq7 : SqT K H7 q.1 (q.2.map V.str) := tF7 q mq
      refine ⟨.ref r1, rfl, r1, rfl, ⟨_, .inl (.inl hr7)⟩, fun D hD => lc_list (K := K) (a := r1) (xs := refsOf ks)
        (fun j H' => Same H7 H' ∧ ∃ ls : List (Addr × List Str), H' D = some (.lst (refsOf ls)) ∧ Tups K H' ls ∧ ls.map (·.2) = ((ks.map (·.2)).take j).map fun o => met o q.2)
        ⟨same_new hD, [], upd_same, fun _ z => (by cases z), by simp⟩ (fun j H' _ h' => .inl (.inl (h'.1 _ _ hr7))) ?_ ?_⟩
      · rintro j y H8 hy ⟨s8, ls, hD8, tl8, el8⟩
        obtain ⟨o, ho', rfl⟩ := ref_at hy
        have so : SqT K H8 o.1 (o.2.map V.str) := Same.seqT s8 (tk7 o (List.mem_of_getElem? ho'))
        have ll : ls.length ≤ 16 := by
          have e := congrArg List.length el8
          rw [List.length_map, List.length_map, List.length_take, List.length_map] at e
          omega
        have lo4 : o.2.length ≤ 4 := by
          have z := (mem7 o.2).mp (List.mem_map.mpr ⟨o, List.mem_of_getElem? ho', rfl⟩)
          exact Nat.le_trans (meets_sub (fun r m => (sub0 r m).2) z).length_le l4
        refine ⟨rfl, .ref o.1, rfl, o.1, rfl, ⟨_, so⟩, fun D2 hD2 => lc_tup (K := K) (a := o.1) (xs := o.2.map V.str)
          (fun m H' => Same H8 H' ∧ ∃ us : List Str, H' D2 = some (.lst (us.map V.str)) ∧ us = (o.2.take m).filter fun t => decide (t ∈ q.2)) ⟨same_new hD2, [], upd_same, by simp⟩ (fun m H' _ h' => Same.seqT h'.1 so) ?_ ?_⟩
        · rintro m x H9 hx ⟨s9, us, hD9, eu⟩
          obtain ⟨t, ht, rfl⟩ := str_at hx
          refine ⟨rfl, .str t, rfl, .ref q.1, rfl, q.1, q.2.map V.str, rfl, .inr (Same.seqT (s8.trans s9) sq7), rfl, flat_strV _, _, rfl, ite_in (fun mt => ?_) (fun mt => ?_)⟩
          · have lu : us.length ≤ 4 := by
              rw [eu]
              exact Nat.le_trans (List.length_filter_le _ _) (Nat.le_trans (List.length_take_le' _ _) lo4)
            refine ⟨.str t, rfl, us.map V.str, hD9, fewer (by rw [List.length_map]; omega), Same.wr s9 hD2, us ++ [t], by rw [upd_same, List.map_append]; rfl, ?_⟩
            rw [take_step ht, List.filter_append, eu, List.filter_cons_of_pos (by simpa using mt)]
            rfl
          · refine ⟨s9, us, hD9, ?_⟩
            rw [take_step ht, List.filter_append, eu, List.filter_cons_of_neg (by simpa using mt)]
            simp
        · rintro H9 ⟨s9, us, hD9, eu⟩
          rw [List.length_map, List.take_length] at eu
          refine ⟨D2, _, rfl, .inl ⟨.inl (.inl hD9), fun T hT => ?_⟩⟩
          have hDT := same_new (o := .tup (us.map V.str)) hT _ _ (s9 _ _ hD8)
          refine ⟨refsOf ls, hDT, fewer (by rw [refs_len]; omega), Same.wr ((s8.trans s9).trans (same_new hT)) hD, ls ++ [(T, us)], by rw [upd_same, refs_app]; rfl, tups_wr hDT ((Tups.same (Tups.same tl8 s9) (same_new hT)).app fun c m => ?_), ?_⟩
          · rw [List.mem_singleton.mp m]
            exact .inl (.inl upd_same)
          · rw [take_step (map_at ho'), List.map_append, List.map_append, el8, eu]
            rfl
      · rintro H8 ⟨s8, ls, hD8, tl8, el8⟩
        rw [refs_len, List.take_of_length_le (Nat.le_of_eq (List.length_map ..))] at el8
        have ll : ls.length = ks.length := by
          have e := congrArg List.length el8
          rw [List.length_map, List.length_map, List.length_map] at e
          exact e
        have okl : ∀ c ∈ ls, Oks c.2 := fun c m => by
          have z : c.2 ∈ ls.map (·.2) := List.mem_map.mpr ⟨c, m, rfl⟩
          rw [el8] at z
          obtain ⟨o, mo, e⟩ := List.mem_map.mp z
          rw [← e]
          exact fun x mx => ho x ((meets_sub (fun r m => (sub0 r m).2) ((mem7 o).mp mo)).subset ((met_sub _ _).subset mx))
        refine ⟨.ref r1, rfl, .ref D, rfl, D, rfl, ⟨_, .inl (.inl hD8)⟩, fun D3 hD3 => lc_list (K := K) (a := D) (xs := refsOf ls)
          (fun j H' => Same H8 H' ∧ ∃ zs : List (Addr × List Str), H' D3 = some (.lst (refsOf zs)) ∧ (∀ c ∈ zs, c ∈ ls) ∧ zs.map (·.2) = ((ls.map (·.2)).take j).filter (fun r => !decide (r = [])))
          ⟨same_new hD3, [], upd_same, fun _ z => (by cases z), by simp⟩ (fun j H' _ h' => .inl (.inl (h'.1 _ _ hD8))) ?_ ?_⟩
        · rintro j y H9 hy ⟨s9, zs, hD9, hz9, ez9⟩
          obtain ⟨c, hc, rfl⟩ := ref_at hy
          have mc := List.mem_of_getElem? hc
          have stp := take_step (l := ls.map (·.2)) (i := j) (x := c.2) (map_at hc)
          refine ⟨rfl, .ref c.1, rfl, few_line (by simp), fun T hT => ⟨rowD c.2, rowD [], row_is (Same.seqT (s9.trans (same_new hT)) (tl8 c mc)), row_is (.inl (.inl upd_same)), shaped_row (okl c mc), shaped_row (fun _ z => (by cases z)), _, rfl, ?_⟩⟩
          rw [eqv_row]
          have hDT : (upd H9 T (.tup [])) D3 = some (.lst (refsOf zs)) := same_new hT _ _ hD9
          have lz : zs.length ≤ 16 := by
            have e := congrArg List.length ez9
            rw [List.length_map] at e
            have := List.length_filter_le (fun r : List Str => !decide (r = [])) ((ls.map (·.2)).take j)
            rw [List.length_take, List.length_map] at this
            omega
          by_cases e0 : c.2 = []
          · rw [decide_eq_true e0]
            refine ⟨s9.trans (same_new hT), zs, hDT, hz9, ?_⟩
            rw [stp, List.filter_append, ez9, List.filter_cons_of_neg (by simp [e0])]
            simp
          · rw [decide_eq_false e0]
            refine ⟨.ref c.1, rfl, refsOf zs, hDT, fewer (by rw [refs_len]; omega), Same.wr (s9.trans (same_new hT)) hD3, zs ++ [c], by rw [upd_same, refs_app]; rfl, fun d m => ?_, ?_⟩
            · rcases List.mem_append.mp m with m | m
              · exact hz9 d m
              · rw [List.mem_singleton.mp m]
                exact mc
            · rw [stp, List.filter_append, List.map_append, ez9, List.filter_cons_of_pos (by simp [e0])]
              rfl
        · rintro H9 ⟨s9, zs, hD9, hz9, ez9⟩
          rw [refs_len, List.take_of_length_le (Nat.le_of_eq (List.length_map ..)), el8] at ez9
          have lz : zs.length ≤ 16 := by
            have e := congrArg List.length ez9
            rw [List.length_map] at e
            have := List.length_filter_le (fun r : List Str => !decide (r = [])) ((ks.map (·.2)).map fun o => met o q.2)
            rw [List.length_map, List.length_map] at this
            omega
          have s79 := s8.trans s9
          have tz : Tups K H9 zs := fun c m => Same.seqT s9 (tl8 c (hz9 c m))
          have tk9 : Tups K H9 ks := Tups.same tk7 s79
          have nz : ∀ c ∈ zs, c.2 ≠ [] := fun c m => by
            have z : c.2 ∈ zs.map (·.2) := List.mem_map.mpr ⟨c, m, rfl⟩
            rw [ez9] at z
            simpa using (List.mem_filter.mp z).2
          have nk : ∀ c ∈ ks, c.2 ≠ [] := fun c m => ((mem7 c.2).mp (List.mem_map.mpr ⟨c, m, rfl⟩)).1
          refine ⟨r1, D3, _, _, rfl, rfl, s79 _ _ hr7, hD9, few_line (by rw [refs_len, refs_len]; omega), fun le2 hle2 => ⟨le2, ks ++ zs, rfl, .inl (.inl (by rw [upd_same, refs_app])), (tk9.app tz).same (same_new hle2), by rw [List.length_append]; omega, fun z2 L2 hz2 g1 g2 g3 g4 => ⟨z2, L2, rfl, upd_same, fun c m => Same.seqT ((same_new hle2).trans (same_new hz2)) ((tk9.app tz) c (g1 c m)), fun c m => ?_, fun L3 r3 pm3 hr3 => ?_⟩⟩⟩
          · rcases List.mem_append.mp (g1 c m) with m | m
            · exact nk c m
            · exact nz c m
          · have pm4 : (L3.mergeSort leT).Perm L2 := (List.mergeSort_perm _ _).trans pm3
            have s9' := ((same_new (o := .lst (refsOf ks ++ refsOf zs)) hle2).trans (same_new (o := SetQ P w z2 L2) hz2))
            have s10 := s9'.trans (same_new (o := .lst (refsOf (L3.mergeSort leT))) hr3)
            refine ⟨⟨r3, _, _, rfl, Same.free ((s7.trans s79).trans s9') hr3, L3.mergeSort leT, upd_same, fun c m => Same.seqT s10 ((tk9.app tz) c (g1 c (pm4.mem_iff.mp m))), (pm4.map (·.2)).nodup_iff.mpr g3, fun c => ?_, L3, rfl⟩, (s7.trans s79).trans s10, s10 _ _ (s79 _ _ hl07), (Tups.same tF7 s79).same s10⟩
            rw [meetsK_succ hB, (pm4.map (·.2)).mem_iff, ← mem7 c]
            have in2 : c ∈ L2.map (·.2) ↔ c ∈ (ks ++ zs).map (·.2) := by
              constructor
              · intro m
                obtain ⟨d, md, rfl⟩ := List.mem_map.mp m
                exact List.mem_map.mpr ⟨d, g1 d md, rfl⟩
              · intro m
                obtain ⟨d, md, rfl⟩ := List.mem_map.mp m
                exact g2 d md
            have mm : c ∈ (ks.map (·.2)).map (fun o => met o q.2) ↔ ∃ o, o ∈ ks.map (·.2) ∧ met o q.2 = c := List.mem_map
            rw [in2, List.map_append, List.mem_append, ez9, List.mem_filter, mm]
            constructor
            · rintro (m | ⟨⟨o, mo, e⟩, nc⟩)
              · exact .inl m
              · exact .inr ⟨o, (mem7 o).mp mo, e.symm, by simpa using nc⟩
            · rintro (m | ⟨o, mo, e, nc⟩)
              · exact .inl m
              · exact .inr ⟨⟨o, (mem7 o).mpr mo, e.symm⟩, by simpa using nc⟩
    · rintro σ H7 ⟨⟨r1, y2, y3, rfl, fr1, ks, hr7, tk7, nd7, mem7, ls7, els7⟩, s7, hl07, tF7⟩
      refine ⟨.ref r1, rfl, hQ r1 ks H7 fr1 hr7 tk7 s7 nd7 (fun c => ?_) ⟨ls7, els7⟩⟩
      rw [mem7 c, ← meets_congr mem0 c, ← meetsK_all, refs_len, List.length_map]
end
end K01

namespace K01
open PySem PySem.Spec PyProof.Rows L2 LamX NdefX Ly
/-! data of tuples alone, apart from what S hides -/
section
variable {K : PySem.W.Frag} {S : Addr → Bool} {H : Hp}
theorem seqT_hid {a : Addr} {xs : List V} (hS : ∀ a o, S a = true → H a = some o → ∃ ys, o = .lst ys) (h : SqT K H a xs) : SqT K (hid S H) a xs := by
  rcases h with (e | ⟨o, e⟩) | e
  · refine .inl (.inl ?_)
    rw [hid_at (by
      cases z : S a with
      | false => rfl
      | true =>
        obtain ⟨ys, y⟩ := hS a _ z e
        cases y)]
    exact e
  · refine .inl (.inr ⟨o, ?_⟩)
    rw [hid_at (by
      cases z : S a with
      | false => rfl
      | true =>
        obtain ⟨ys, y⟩ := hS a _ z e
        cases y)]
    exact e
  · exact .inr e
mutual
theorem Dq.hid (hS : ∀ a o, S a = true → H a = some o → ∃ ys, o = .lst ys) : ∀ {v : V} {d : PyData}, Dq K H v d → tupD d = true → DS K S H v d
  | _, _, .non, _ => .non
  | _, _, .bl c, _ => .bl c
  | _, _, .int i, _ => .int i
  | _, _, .str x, _ => .str x
  | _, _, .lst _ _, f => by simp [tupD] at f
  | _, _, .tup hs ha, f => .tup (seqT_hid hS hs) (DqA.hid hS ha (by simpa [tupD] using f))
  | _, _, .dic _ _, f => by simp [tupD] at f
theorem DqA.hid (hS : ∀ a o, S a = true → H a = some o → ∃ ys, o = .lst ys) : ∀ {vs : List V} {ds : List PyData}, DqA K H vs ds → tupDs ds = true → DSA K S H vs ds
  | _, _, .nil, _ => .nil
  | _, _, .cons h1 h2, f => by
    simp only [tupDs, Bool.and_eq_true] at f
    exact .cons (Dq.hid hS h1 f.1) (DqA.hid hS h2 f.2)
end
theorem tup_W (W : Wld) : tupD W.d = true := by
  have e : W.d = .tuple [rowD W.tiles, .tuple (W.tabs.map tabD), rowD W.marks, .tuple (W.ties.map rowD), .tuple (W.told.map rowD)] := rfl
  rw [e]
  have h2 : tupD (.tuple (W.tabs.map tabD)) = true := tup_tabs _
  have h4 : tupD (.tuple (W.ties.map rowD)) = true := tup_rows _
  have h5 : tupD (.tuple (W.told.map rowD)) = true := tup_rows _
  simp only [tupD, tupDs, tup_row, Bool.and_true, Bool.true_and] at h2 h4 h5 ⊢
  simp [h2, h4, h5]
end
/-- what is drawn, in a list of things -/
def TV (K : PySem.W.Frag) (S : Addr → Bool) (H : Hp) (v : V) : Prop := ∃ d, DS K S H v d ∧ OkT d
section
variable {K : PySem.W.Frag} {S : Addr → Bool} {b : Addr} {H H' : Hp} {v : V}
theorem TV.dr (hb : S b = true) (h : TV K S H v) (d : Dr b H H') : TV K S H' v := let ⟨e, h1, h2⟩ := h; ⟨e, h1.mono (hid_dr hb d.kp), h2⟩
theorem TV.mono (h : TV K S H v) (s : Same (hid S H) (hid S H')) : TV K S H' v := let ⟨e, h1, h2⟩ := h; ⟨e, h1.mono s, h2⟩
theorem OkX.t {d : PyData} {B n : Nat} (h : OkX B n d) (hB : B ≤ 1100000) (hn : n ≤ 20) : OkT d := ⟨h.show_, Nat.le_trans h.len hB, Nat.le_trans h.deep hn, h.short⟩
theorem Dx.tv (h : Dx K S H v) : TV K S H v := let ⟨d, h1, h2⟩ := h; ⟨d, h1, h2.t (by decide) (by decide)⟩
theorem Tx.tv {n : Nat} (h : Tx K S H v n) (hn : n ≤ 13) : TV K S H v := (h.dx hn).tv
theorem gt_okT {n : Nat} {s : Str} (h : GT n s) (hn : n ≤ 100) : OkT (.str s) := by
  obtain ⟨h1, h2, h3, h4⟩ := h.show hn
  exact ⟨h1, Nat.le_trans h2 (by decide), by rw [h3]; exact Nat.zero_le _, decide_eq_true h4⟩
theorem okT_small : ∀ i : Fin 9, (PyData.int (i.val : Int)).showable = true ∧ (PyData.int (i.val : Int)).shown.length ≤ 100 ∧ (PyData.int (i.val : Int)).depth ≤ 1 := by decide +kernel
theorem okT_lit : ∀ d ∈ [PyData.int (-5), .int (10 ^ (39 : Int).toNat), .bool true], d.showable = true ∧ d.shown.length ≤ 100 ∧ d.depth ≤ 1 ∧ shortD d = true := by decide +kernel
theorem okT_lits {d : PyData} (h : d ∈ [PyData.int (-5), .int (10 ^ (39 : Int).toNat), .bool true]) : OkT d := let ⟨h1, h2, h3, h4⟩ := okT_lit d h; ⟨h1, Nat.le_trans h2 (by decide), Nat.le_trans h3 (by decide), h4⟩
theorem okT_int {i : Int} (h0 : 0 ≤ i) (h1 : i < 9) : OkT (.int i) := by
  obtain ⟨n, rfl⟩ : ∃ n : Nat, i = (n : Int) := ⟨i.toNat, by omega⟩
  obtain ⟨a1, a2, a3⟩ := okT_small ⟨n, by omega⟩
  exact ⟨a1, Nat.le_trans a2 (by decide), Nat.le_trans a3 (by decide), rfl⟩
theorem okT_row {r : List Str} (mem : ∀ x ∈ r, x ∈ poolA ++ poolB) (l : r.length ≤ 13) : OkT (rowD r) := by
  refine OkX.t (OkX.tuple (ds := r.map .str) (fun d hd => ?_) (by rw [List.length_map]; exact l)) (by decide) (by decide)
  obtain ⟨x, hx, rfl⟩ := List.mem_map.mp hd
  obtain ⟨o1, o2, o3, o4⟩ := name_ok x (mem x hx)
  exact ⟨o1, o2, o3, o4⟩
theorem okT_W {W : Wld} (g : GoodV W) : OkT W.d := ⟨g.okd.show_, g.okd.len, Nat.le_trans g.okd.deep (by decide), rfl⟩
end
theorem bag_ext {b : Addr} {H H' : Hp} (e : ExtN H H') (h : IsBag H b) : IsBag H' b := by
  obtain ⟨q, x0, x1, x2, ms, h⟩ := h
  exact ⟨q, x0, x1, x2, ms, ⟨e _ _ h.top (fun ps z => by cases z), e _ _ h.cells (fun ps z => by cases z), h.n0, h.n1, h.n2, h.few⟩⟩
theorem Tabs.dr {T : List (Addr × Str)} {b : Addr} {H H' : Hp} (t : Tabs T H) (d : Dr b H H') : Tabs T H' := fun p hp => by
  obtain ⟨ys, eb⟩ := d.old.top
  obtain ⟨ps, h1, h2, h3⟩ := t p hp
  refine ⟨ps, d.kp _ _ (fun z => by rw [z, eb] at h1; cases h1) h1, h2, fun pos cv hc => ?_⟩
  obtain ⟨c, e1, e2⟩ := h3 pos cv hc
  exact ⟨c, e1, d.kp _ _ (fun z => by
    rw [z, eb] at e2
    have e3 := Option.some.inj e2
    unfold CodeO at e3
    cases e3) e2⟩
section
variable {P : Program} {w : World} {K : PySem.W.Frag} {mg : Str → Option Value} {base : Heap} {f : Addr} {A : Around} {outer : List Env} {s : Shared} {H0 : Hp} {E : XK} {cd : Value} {T : List (Addr × Str)}
/-- one WORLD -/
theorem blkTurn (T0 : Txt K mg) (TK : TabsK K base mg T) (hG : A.guards = some []) (hr : Room 6 (A.deeper (envOfC "law" (defScope (topS i_law)) s.heap.objs.size f cd))) :
    ∃ t, PSs (cxOf CX0 P w K mg base nmL "law" (defScope (topS i_law)) f cd A outer s H0 E).nox bodyTurn t ∧
      ∀ (D : Ends) (H : Hp) (b : Addr) (z0 z2 z3 z4 z5 z6 z7 z8 z9 z10 z11 : Option V), IsBag H b → Tabs T H →
        (∀ y3 y4 y5 y6 y7 y8 y9 y10 y11 H', IsBag H' b → Tabs T H' → D.nx [z0, some (.ref b), z2, y3, y4, y5, y6, y7, y8, y9, y10, y11, none] H') →
        t D [z0, some (.ref b), z2, z3, z4, z5, z6, z7, z8, z9, z10, z11, none] H := by
  obtain ⟨_, FW⟩ := T0.fun_ "_law_world" i_law_world (by decide +kernel)
  obtain ⟨_, FWo⟩ := T0.fun_ "_law_world_of" i_law_world_of (by decide +kernel)
  obtain ⟨_, FI⟩ := T0.fun_ "_law_is_couple" i_law_is_couple (by decide +kernel)
  obtain ⟨_, FCp⟩ := T0.fun_ "_law_couples" i_law_couples (by decide +kernel)
  obtain ⟨_, FM⟩ := T0.fun_ "_law_mixed" i_law_mixed (by decide +kernel)
  obtain ⟨_, FS⟩ := T0.fun_ "_law_some" i_law_some (by decide +kernel)
  obtain ⟨_, FT⟩ := T0.fun_ "_law_take" i_law_take (by decide +kernel)
  obtain ⟨_, FLo⟩ := T0.fun_ "_law_lots" i_law_lots (by decide +kernel)
  obtain ⟨_, FLt⟩ := T0.fun_ "_law_told" i_law_told (by decide +kernel)
  obtain ⟨_, FN⟩ := T0.fun_ "_law_near_names" i_law_near_names (by decide +kernel)
  obtain ⟨_, FO⟩ := T0.fun_ "_law_odd" i_law_odd (by decide +kernel)
  obtain ⟨_, FB⟩ := T0.fun_ "_law_bent" i_law_bent (by decide +kernel)
  have gW' := T0.glo "_law_world" (by decide +kernel)
  have gWo := T0.glo "_law_world_of" (by decide +kernel)
  have gI := T0.glo "_law_is_couple" (by decide +kernel)
  have gCp := T0.glo "_law_couples" (by decide +kernel)
  have gM := T0.glo "_law_mixed" (by decide +kernel)
  have gS := T0.glo "_law_some" (by decide +kernel)
  have gT := T0.glo "_law_take" (by decide +kernel)
  have gLo := T0.glo "_law_lots" (by decide +kernel)
  have gLt := T0.glo "_law_told" (by decide +kernel)
  have gN := T0.glo "_law_near_names" (by decide +kernel)
  have gO := T0.glo "_law_odd" (by decide +kernel)
  have gB := T0.glo "_law_bent" (by decide +kernel)
  have md := T0.free "dict" (by decide +kernel)
  have mt := T0.free "tuple" (by decide +kernel)
  have ms := T0.free "sorted" (by decide +kernel)
  have mz := T0.free "set" (by decide +kernel)
  have mL0 := T0.free "list" (by decide +kernel)
  have ma := T0.free "abs" (by decide +kernel)
  have mi := T0.free "int" (by decide +kernel)
  have ml := T0.free "len" (by decide +kernel)
  have me := T0.free "enumerate" (by decide +kernel)
  have mrg := T0.free "range" (by decide +kernel)
  have mI := T0.free "isinstance" (by decide +kernel)
  have mS := T0.free "str" (by decide +kernel)
  have GW : FnOk P w K mg base CX0 5 _ _ ["bag"] (spWld K) := ok_wld FW FWo gWo FT gT FS gS FI gI FCp gCp FM gM FLo gLo mi ma ml me mt ms mz mrg
  have bW : Binds K _ ["bag"] [] := FW.bindsN fun _ _ _ _ _ _ us hl => match us, hl with | [_], _ => rfl
  have GLo : FnOk P w K mg base CX0 1 _ _ ["tiles"] (spLots K) := ok_lots FLo ms
  have bLo : Binds K _ ["tiles"] [] := FLo.bindsN fun _ _ _ _ _ _ us hl => match us, hl with | [_], _ => rfl
  have GLt : FnOk P w K mg base CX0 1 _ _ ["world"] (spTold K) := ok_told FLt mt ms mz mL0
  have bLt : Binds K _ ["world"] [] := FLt.bindsN fun _ _ _ _ _ _ us hl => match us, hl with | [_], _ => rfl
  have GN : FnOk P w K mg base CX0 3 _ _ ["bag"] (spNn K) := ok_nn FN FS gS FT gT mi ml mL0 mrg
  have bN : Binds K _ ["bag"] [] := FN.bindsN fun _ _ _ _ _ _ us hl => match us, hl with | [_], _ => rfl
  have GO : FnOk P w K mg base CX0 3 _ _ ["bag"] (spOdd K) := ok_odd FO FS gS FT gT mi ml
  have bO : Binds K _ ["bag"] [] := FO.bindsN fun _ _ _ _ _ _ us hl => match us, hl with | [_], _ => rfl
  have GS : FnOk P w K mg base CX0 2 _ _ ["bag", "things"] (spSome K) := ok_some FS FT gT mi ml
  have bS : Binds K _ ["bag", "things"] [] := FS.bindsN fun _ _ _ _ _ _ us hl => match us, hl with | [_, _], _ => rfl
  have GT1 : FnOk P w K mg base CX0 1 _ _ ["bag", "many"] spTake := ok_take FT mi
  have bT : Binds K _ ["bag", "many"] [] := FT.bindsN fun _ _ _ _ _ _ us hl => match us, hl with | [_, _], _ => rfl
  have GB : FnOk P w K mg base CX0 4 _ _ ["bag", "thing", "deep"] (spBn1 K) := ok_bn1 FB gB FS gS FT gT FO gO mi ml mI mt md mS mL0
  have bB : Binds K _ ["bag", "thing", "deep"] [] := FB.bindsN fun _ _ _ _ _ _ us hl => match us, hl with | [_, _, _], _ => rfl
  have r1 : Room 1 _ := hr.mono (by decide)
  have r2 : Room 2 _ := hr.mono (by decide)
  have r3 : Room 3 _ := hr.mono (by decide)
  have r4 : Room 4 _ := hr.mono (by decide)
  have r5 : Room 5 _ := hr.mono (by decide)
  obtain ⟨tG, hTg, qG⟩ := blkThing (P := P) (w := w) (base := base) (outer := outer) (H0 := H0) (E := E) T0 TK hG hr
  refine ⟨_, (pss_cons (ps_set (i := 3) scLaw.nd rfl (.inl rfl) (pe_call GW r5 (by rfl) gW' FW.kp bW .nil pass0 (pa_cons (pv 1) pa_nil)))
    (pss_cons (ps_asg (pe_tup (pa_cons (pe_call GLo r1 (by rfl) gLo FLo.kp bLo .nil pass0 (pa_cons (pe_ix ix_tup (pv 3) pe_int (fun _ _ => rfl)) pa_nil)) (pa_cons (pe_call GLt r1 (by rfl) gLt FLt.kp bLt .nil pass0 (pa_cons (pv 3) pa_nil)) pa_nil)))
      (pg_tup rfl (pgs_cons (pg_name (i := 4) scLaw.nd rfl (Or.inr rfl)) (pgs_cons (pg_name (i := 5) scLaw.nd rfl (Or.inl rfl)) pgs_nil))))
    (pss_cons (ps_set (i := 6) scLaw.nd rfl (.inl rfl) (pe_op op_cat (pe_call GN r3 (by rfl) gN FN.kp bN .nil pass0 (pa_cons (pv 1) pa_nil)) (pe_lst (pa_cons (pe_call GO r3 (by rfl) gO FO.kp bO .nil pass0 (pa_cons (pv 1) pa_nil)) (pa_cons (pe_ix ix_tup (pv 3) pe_int (fun _ _ => rfl))
      (pa_cons (pe_call GS r2 (by rfl) gS FS.kp bS .nil pass0 (pa_cons (pv 1) (pa_cons (pv 4) pa_nil))) (pa_cons (pe_call GS r2 (by rfl) gS FS.kp bS .nil pass0 (pa_cons (pv 1) (pa_cons (pv 5) pa_nil))) (pa_cons (pv 3) pa_nil))))))))
    (pss_cons (ps_expr (pe_bm PySem.F.plainAttrs_list PySem.F.slot_list_extend PySem.F.type_list_extend mt_extend (pv 6) (pa_cons (pe_lc (own := [("more", 12)]) (g := gName 12) (tt := tYes) (te := tCall (spBn1 K) [] (fun _ _ _ => False) (tCons (tVar 1) (tCons (tCall (spSome K) [] (fun _ _ _ => False) (tCons (tVar 1) (tCons (tVar 4) tNil))) (tCons (tC (.int 1)) tNil))))
        rfl scLaw.nd (pi_range1 (by rfl) mrg (pa_cons pe_int pa_nil)) (blkOk_by (N := nmL) (sc := defScope (topS i_law)) (by decide +kernel)) (fun _ _ _ _ _ => pg_name (i := 12) scLaw.nd rfl (Or.inl rfl)) (fun _ _ _ _ _ => pts_nil)
        (fun _ _ _ _ _ => pe_call GB r4 (by rfl) gB FB.kp bB .nil pass0 (pa_cons (pv 1) (pa_cons (pe_call GS r2 (by rfl) gS FS.kp bS .nil pass0 (pa_cons (pv 1) (pa_cons (pv 4) pa_nil))) (pa_cons pe_int pa_nil))))) pa_nil)))
    (pss_cons (ps_expr (pe_bm PySem.F.plainAttrs_list PySem.F.slot_list_extend PySem.F.type_list_extend mt_extend (pv 6) (pa_cons (pe_lst (pa_cons (pe_call GT1 r1 (by rfl) gT FT.kp bT .nil pass0 (pa_cons (pv 1) (pa_cons pe_int pa_nil))) (pa_cons (pe_un un_neg pe_int) (pa_cons (pe_op op_pow pe_int pe_int) pa_nil)))) pa_nil)))
    (pss_cons (ps_expr (pe_bm PySem.F.plainAttrs_list PySem.F.slot_list_extend PySem.F.type_list_extend mt_extend (pv 6) (pa_cons (pe_lst (pa_cons (pe_revT (pe_call GS r2 (by rfl) gS FS.kp bS .nil pass0 (pa_cons (pv 1) (pa_cons (pv 4) pa_nil))))
      (pa_cons (pe_op op_catA (pe_ix ix_tup (pv 3) pe_int (fun _ _ => rfl)) (pe_slice sl_tupA (pe_ix ix_tup (pv 3) pe_int (fun _ _ => rfl)) (po_some (pe_un un_neg pe_int)) po_none)) (pa_cons (pe_call GS r2 (by rfl) gS FS.kp bS .nil pass0 (pa_cons (pv 1) (pa_cons (pv 5) pa_nil))) (pa_cons pe_bl pa_nil))))) pa_nil)))
    (pss_one (ps_for PassesOwn.never rfl (pi_list (pv 6)) (pg_name (i := 7) scLaw.nd rfl (.inl rfl)) hTg)))))))), ?_⟩
  intro D H b z0 z2 z3 z4 z5 z6 z7 z8 z9 z10 z11 hB hT hN
  refine ⟨.ref b, rfl, b, rfl, hB, fun p W H1 hp hW d1 g0 => ?_⟩
  have gW := g0.v
  obtain ⟨v0, v1, v2, v3, v4, x2⟩ := id hW
  obtain ⟨a0, ea0, sq0⟩ := row_of x2.tiles
  subst ea0
  have l4 := gW.tileL
  have tne := gW.tileNe
  have memT : ∀ {r : List Str}, r.Sublist W.tiles → ∀ x ∈ r, x ∈ poolA ++ poolB := fun sr x m => let ⟨_, _, _, h⟩ := gW.tiles; h.of x (sr.subset m)
  refine ⟨.ref p, rfl, p, _, 0, .ref a0, rfl, rfl, x2.sq, rfl, a0, W.tiles, rfl, sq0, by omega, gW.tileOk, fun l ks H2 hl el tl s2 hls => ?_⟩
  refine ⟨.ref p, rfl, p, _, _, _, _, _, W.tiles, W.told, rfl, Same.seqT s2 x2.sq, x2.tiles.mono s2, x2.told.mono s2, tne, l4, gW.tileOk, fun r m => gW.toldSub m, Nat.le_trans gW.toldFew (by decide), fun lt tls H3 hlt elt ttl s3 ndt memt _ => ?_⟩
  refine ⟨few_line (by simp), fun Tp hTp => ⟨Tp, _, rfl, .inl (.inl upd_same), rfl, .ref l, _, rfl, .ref lt, _, rfl, rfl, ?_⟩⟩
  have s4 := same_new (o := .tup [V.ref l, V.ref lt]) hTp
  have s14 := (s2.trans s3).trans s4
  have el4 := (s3.trans s4) _ _ el
  have tl4 := tl.same (s3.trans s4)
  have elt4 := s4 _ _ elt
  have ttl4 := ttl.same s4
  have nl : l ≠ b := d1.bag.ne hl
  have nlt : lt ≠ b := (Dr.same d1.bag s2).bag.ne hlt
  generalize upd H3 Tp (.tup [V.ref l, V.ref lt]) = H4 at s14 el4 tl4 elt4 ttl4 ⊢
  have d4 := d1.trans (Dr.same d1.bag s14)
  have hW4 := hW.mono s14
  have x4 := x2.mono s14
  have sq4 := Same.seqT s14 sq0
  -- the LOTS
  obtain ⟨ls, els, rfl⟩ := hls
  have kin : ∀ q ∈ ls.mergeSort leT, q.2 ≠ [] ∧ q.2.Sublist W.tiles := fun q m => by
    have z : q.2 ∈ ls.map (·.2) := List.mem_map_of_mem (f := Prod.snd) ((List.mergeSort_perm ls leT).mem_iff.mp m)
    rw [els, List.mem_filter] at z
    exact ⟨by simpa using z.2, lotsR_mem _ _ z.1⟩
  have klen : (ls.mergeSort leT).length ≤ 16 := by
    rw [(List.mergeSort_perm ls leT).length_eq]
    have e := congrArg List.length els
    rw [List.length_map] at e
    have := List.length_filter_le (fun r : List Str => !decide (r = [])) (lotsR W.tiles)
    rw [lotsR_len] at this
    have := Nat.pow_le_pow_right (n := 2) (by decide) l4
    omega
  have kpos : 0 < (ls.mergeSort leT).length := by
    rw [(List.mergeSort_perm ls leT).length_eq]
    have z : W.tiles ∈ ls.map (·.2) := by
      rw [els, List.mem_filter]
      exact ⟨lotsR_all _ _ (List.Sublist.refl _), by simp [tne]⟩
    obtain ⟨q, mq, _⟩ := List.mem_map.mp z
    exact List.length_pos_of_mem mq
  generalize ls.mergeSort leT = ks at kin klen kpos el4 tl4 ⊢
  have subL : ∀ r ∈ W.told ++ [W.tiles] ++ W.tiles.map (fun t => [t]), r.Sublist W.tiles := fun r m => by
    rcases List.mem_append.mp m with m | m
    · rcases List.mem_append.mp m with m | m
      · exact (gW.toldSub m).2
      · rw [List.mem_singleton.mp m]
        exact List.Sublist.refl _
    · obtain ⟨y, my, rfl⟩ := List.mem_map.mp m
      exact List.singleton_sublist.mpr my
  have tin : ∀ q ∈ tls, q.2 ≠ [] ∧ q.2.Sublist W.tiles := fun q m => by
    have z := (memt q.2).mp (List.mem_map_of_mem (f := Prod.snd) m)
    exact ⟨z.1, meets_sub subL (meetsK_all.mpr z)⟩
  have tlen : tls.length ≤ 16 := by
    have z := lots_few l4 ndt fun r m => by
      obtain ⟨q, mq, rfl⟩ := List.mem_map.mp m
      exact (tin q mq).2
    rw [List.length_map] at z
    exact z
  have tpos : 0 < tls.length := by
    have z : W.tiles ∈ tls.map (·.2) := (memt _).mpr ⟨tne, W.tiles, by simp, [], fun _ z => (by cases z), (mets_nil _).symm⟩
    obtain ⟨q, mq, _⟩ := List.mem_map.mp z
    exact List.length_pos_of_mem mq
  -- the things
  refine ⟨.ref b, rfl, b, rfl, d4.bag, fun ln ss H5 hln eln lss gss d5 => ?_⟩
  have nln : ln ≠ b := d4.bag.ne hln
  have liveB : ∀ {H' : Hp}, IsBag H' b → ∀ a, offB b a = true → H' a ≠ none := fun hB a z n => by
    have e : a = b := of_decide_eq_true z
    obtain ⟨ys, y⟩ := hB.top
    rw [e, y] at n
    cases n
  refine ⟨.ref b, rfl, b, offB b, rfl, d5.bag, by simp [offB], liveB d5.bag, fun vo H6 ⟨od, mo, dbo⟩ d6 => ?_⟩
  have d46 := d5.trans d6
  refine ⟨.ref p, rfl, p, _, 0, .ref a0, rfl, rfl, d46.seqT x4.sq, rfl, .ref b, rfl, .ref l, rfl, b, l, _, rfl, d46.bag, .inl ⟨.inl (.inl (d46.kp _ _ nl el4)), nl⟩, by rw [refs_len]; exact kpos, by rw [refs_len]; omega, fun vl H7 hvl k7 b7 => ?_⟩
  have d7 : Dr b H6 H7 := ⟨k7, b7⟩
  have d47 := d46.trans d7
  refine ⟨.ref b, rfl, .ref lt, rfl, b, lt, _, rfl, d47.bag, .inl ⟨.inl (.inl (d47.kp _ _ nlt elt4)), nlt⟩, by rw [refs_len]; exact tpos, by rw [refs_len]; omega, fun vt H8 hvt k8 b8 => ?_⟩
  have d8 : Dr b H7 H8 := ⟨k8, b8⟩
  have d48 := d47.trans d8
  refine ⟨.ref p, rfl, few_line (by simp), fun p9 hp9 => ?_⟩
  have eln8 : H8 ln = some (.lst (ss.map .str)) := ((d6.trans d7).trans d8).kp _ _ nln eln
  have n9 : ln ≠ p9 := ne_of_none eln8 hp9
  refine ⟨ln, p9, _, _, rfl, rfl, by rw [upd_ne n9]; exact eln8, upd_same, few_line (by rw [List.length_map, lss]; simp), fun th hth => ?_⟩
  have d9 := Dr.new (o := .lst [vo, .ref a0, vl, vt, .ref p]) d48.bag hp9
  have nth := d9.bag.ne hth
  have d49 := d48.trans d9
  have dbo9 := dbo.mono (hid_dr (by simp [offB]) ((d7.trans d8).trans d9).kp)
  generalize upd H8 p9 (.lst [vo, .ref a0, vl, vt, .ref p]) = H9 at hth d49 dbo9 ⊢
  obtain ⟨S, eS⟩ : ∃ S : Addr → Bool, S = fun a => offB b a || offB th a := ⟨_, rfl⟩
  have Sb : S b = true := by rw [eS]; simp [offB]
  have Sth : S th = true := by rw [eS]; simp [offB]
  have Sne : ∀ {a : Addr}, S a = false → a ≠ b ∧ a ≠ th := fun {a} z => by
    rw [eS] at z
    exact ⟨offB_ne (Bool.or_eq_false_iff.mp z).1, offB_ne (Bool.or_eq_false_iff.mp z).2⟩
  have Sof : ∀ {a : Addr}, a ≠ b → a ≠ th → S a = false := fun h1 h2 => by
    rw [eS]
    exact Bool.or_eq_false_iff.mpr ⟨offB_of h1, offB_of h2⟩
  have Sor : ∀ {a : Addr}, S a = true → a = b ∨ a = th := fun {a} z => by
    rw [eS] at z
    rcases (Bool.or_eq_true _ _).mp z with z | z
    · exact .inl (of_decide_eq_true z)
    · exact .inr (of_decide_eq_true z)
  have tupS : ∀ {H' : Hp} {xs : List V}, IsBag H' b → H' th = some (.lst xs) → ∀ a o, S a = true → H' a = some o → ∃ ys, o = .lst ys := fun hB e a o z h => by
    rcases Sor z with rfl | rfl
    · obtain ⟨ys, y⟩ := hB.top
      rw [y] at h
      exact ⟨_, (Option.some.inj h).symm⟩
    · rw [e] at h
      exact ⟨_, (Option.some.inj h).symm⟩
  have liveS : ∀ {H' : Hp} {xs : List V}, IsBag H' b → H' th = some (.lst xs) → ∀ a, S a = true → H' a ≠ none := fun hB e a z n => by
    rcases Sor z with rfl | rfl
    · obtain ⟨ys, y⟩ := hB.top
      rw [y] at n
      cases n
    · rw [e] at n
      cases n
  -- rows, tiles, the world as things
  have tvR : ∀ {H' : Hp} {xs : List V} {v : V} {qs : List (Addr × List Str)}, Dr b H4 H' → H' th = some (.lst xs) → Tups K H4 qs → (∀ q ∈ qs, q.2 ≠ [] ∧ q.2.Sublist W.tiles) → v ∈ refsOf qs → TV K S H' v := fun d e tq hq hv => by
    obtain ⟨q, mq, rfl⟩ := List.mem_map.mp hv
    exact ⟨rowD q.2, Dq.hid (tupS d.bag e) (row_is (d.seqT (tq q mq))) (tup_row _), okT_row (memT (hq q mq).2) (Nat.le_trans (hq q mq).2.length_le (by omega))⟩
  have d10 := Dr.new (o := .lst (ss.map .str ++ [vo, .ref a0, vl, vt, .ref p])) d49.bag hth
  have e10 : (upd H9 th (.lst (ss.map .str ++ [vo, .ref a0, vl, vt, .ref p]))) th = some (.lst (ss.map .str ++ [vo, .ref a0, vl, vt, .ref p])) := upd_same
  have so10 : Same (hid (offB b) H9) (hid S (upd H9 th (.lst (ss.map .str ++ [vo, .ref a0, vl, vt, .ref p])))) := fun a o e => by
    obtain ⟨z, e⟩ := of_hid e
    have n1 := offB_ne z
    have n2 := ne_of_none e hth
    rw [hid_at (Sof n1 n2), upd_ne n2]
    exact e
  have dvo := dbo9.mono so10
  generalize upd H9 th (.lst (ss.map .str ++ [vo, .ref a0, vl, vt, .ref p])) = H10 at d10 e10 so10 dvo ⊢
  have d410 := d49.trans d10
  obtain ⟨vs1, ev1⟩ : ∃ vs1, vs1 = ss.map V.str ++ [vo, .ref a0, vl, vt, .ref p] := ⟨_, rfl⟩
  rw [← ev1] at e10
  have l1 : vs1.length = 38 := by rw [ev1, List.length_append, List.length_map, lss]; rfl
  have t10 : ∀ v ∈ vs1, TV K S H10 v := fun v m => by
    rw [ev1] at m
    rcases List.mem_append.mp m with m | m
    · obtain ⟨x, mx, rfl⟩ := str_mem m
      exact ⟨.str x, .str x, gt_okT (gss x mx) (by decide)⟩
    · simp only [List.mem_cons, List.not_mem_nil, or_false] at m
      rcases m with rfl | rfl | rfl | rfl | rfl
      · obtain ⟨o1, o2, o3, o4⟩ := odd_ok od mo
        exact ⟨od, dvo, o1, Nat.le_trans o2 (by decide), Nat.le_trans o3 (by decide), o4⟩
      · exact ⟨rowD W.tiles, Dq.hid (tupS d410.bag e10) (row_is (d410.seqT sq4)) (tup_row _), okT_row (memT (List.Sublist.refl _)) (by omega)⟩
      · exact tvR d410 e10 tl4 kin hvl
      · exact tvR d410 e10 ttl4 tin hvt
      · exact ⟨W.d, Dq.hid (tupS d410.bag e10) (hW4.dr d410).dq (tup_W W), okT_W gW⟩
  -- six that are bent
  refine ⟨.ref th, rfl, .inl ⟨rfl, _, .inl (.inl e10)⟩, 6, rfl, by decide, by decide, fun D0 hD => lc_range (lo := 0) (n := (6 : Int).toNat) (fun i H' => Dr b H10 H' ∧ ∃ acc : List V, acc.length = i ∧ (∀ v ∈ acc, TV K (fun a => S a || offB D0 a) H' v) ∧ H' D0 = some (.lst acc))
    ⟨Dr.new d10.bag hD, [], rfl, fun _ z => (by cases z), upd_same⟩ ?_ ?_⟩
  · rintro i H11 hi ⟨d11, acc, la, ga, hD1⟩
    have nD := d10.bag.ne hD
    have d411 := d410.trans d11
    have e11 := d11.kp _ _ nth e10
    refine ⟨rfl, .ref b, rfl, .ref b, rfl, .ref l, rfl, b, l, _, rfl, d11.bag, .inl ⟨.inl (.inl (d411.kp _ _ nl el4)), nl⟩, by rw [refs_len]; exact kpos, by rw [refs_len]; omega, fun v H12 hv k12 b12 => ?_⟩
    obtain ⟨q, mq, rfl⟩ := List.mem_map.mp hv
    have d12 : Dr b H11 H12 := ⟨k12, b12⟩
    have hD2 := k12 _ _ nD hD1
    have e12 := k12 _ _ nth e11
    have hS2 : ∀ a o, (fun a => S a || offB D0 a) a = true → H12 a = some o → ∃ ys, o = .lst ys := fun a o z h => by
      rcases (Bool.or_eq_true _ _).mp z with z | z
      · exact tupS d12.bag e12 a o z h
      · have e : a = D0 := of_decide_eq_true z
        rw [e, hD2] at h
        exact ⟨_, (Option.some.inj h).symm⟩
    refine ⟨b, q.1, q.2, fun a => S a || offB D0 a, rfl, d12.bag, by simp [Sb], fun a z n => ?_, seqT_hid hS2 ((d411.trans d12).seqT (tl4 q mq)), (kin q mq).1, Nat.le_trans (kin q mq).2.length_le l4, memT (kin q mq).2, fun v' H13 d13 dx => ?_⟩
    · rcases (Bool.or_eq_true _ _).mp z with z | z
      · exact liveS d12.bag e12 a z n
      · have e : a = D0 := of_decide_eq_true z
        rw [e, hD2] at n
        cases n
    have hD3 := d13.kp _ _ nD hD2
    have s13 : Same (hid (fun a => S a || offB D0 a) H13) (hid (fun a => S a || offB D0 a) (upd H13 D0 (.lst (acc ++ [v'])))) := hid_same (fun _ z => z) fun a o z e => by
      rw [upd_ne (offB_ne (Bool.or_eq_false_iff.mp z).2)]
      exact e
    have hi : i < 6 := hi
    refine ⟨acc, hD3, fewer (by omega), ((d11.trans d12).trans d13).wr hD, acc ++ [v'], by rw [List.length_append, la]; rfl, fun u m => ?_, by rw [upd_same]⟩
    rcases List.mem_append.mp m with m | m
    · exact ((ga u m).dr (by simp [Sb]) (d12.trans d13)).mono s13
    · rw [List.mem_singleton.mp m]
      exact dx.tv.mono s13
  rintro H11 ⟨d11, acc, la, ga, hD1⟩
  have la : acc.length = 6 := la
  have e11 := d11.kp _ _ nth e10
  have ga : ∀ v ∈ acc, TV K S H11 v := fun v m => let ⟨e, h1, h2⟩ := ga v m; ⟨e, h1.mono (hid_same (fun a z => (Bool.or_eq_false_iff.mp z).1) fun a o _ e => e), h2⟩
  have ext : ∀ {H' : Hp} {o : HO}, Same (hid S H') (hid S (upd H' th o)) := hid_same (fun _ z => z) fun a o z e => by
    rw [upd_ne (Sne z).2]
    exact e
  refine ⟨th, D0, vs1, acc, rfl, rfl, e11, hD1, few_line (by omega), ?_⟩
  have d12 : Dr b H9 (upd H11 th (.lst (vs1 ++ acc))) := (d10.trans d11).wr hth
  have e12 : (upd H11 th (.lst (vs1 ++ acc))) th = some (.lst (vs1 ++ acc)) := upd_same
  have t12 : ∀ v ∈ vs1 ++ acc, TV K S (upd H11 th (.lst (vs1 ++ acc))) v := fun v m => by
    rcases List.mem_append.mp m with m | m
    · exact ((t10 v m).dr Sb d11).mono ext
    · exact (ga v m).mono ext
  have l2 : (vs1 ++ acc).length = 44 := by rw [List.length_append, l1, la]
  generalize vs1 ++ acc = vs2 at d12 e12 t12 l2 ⊢
  generalize upd H11 th (.lst vs2) = H12 at d12 e12 t12 ⊢
  -- three ints
  refine ⟨.ref th, rfl, .inl ⟨rfl, _, .inl (.inl e12)⟩, .ref b, rfl, b, 9, rfl, d12.bag, by decide, by decide, fun t7 H13 t0 t1 k13 b13 => ?_⟩
  have d13 : Dr b H12 H13 := ⟨k13, b13⟩
  have e13 := k13 _ _ nth e12
  refine ⟨5, rfl, 10, 39, rfl, rfl, ⟨by decide, by decide, by decide⟩, few_line (by simp), fun p2 hp2 => ?_⟩
  have np2 : th ≠ p2 := ne_of_none e13 hp2
  refine ⟨th, p2, vs2, _, rfl, rfl, by rw [upd_ne np2]; exact e13, upd_same, few_line (by rw [l2]; simp), ?_⟩
  have d14 := d13.trans (Dr.new (o := .lst [V.int t7, .int (-5), .int (10 ^ (39 : Int).toNat)]) d13.bag hp2)
  have d15 := (d12.trans d14).wr (o := .lst (vs2 ++ [V.int t7, .int (-5), .int (10 ^ (39 : Int).toNat)])) hth
  have t15 : ∀ v ∈ vs2 ++ [V.int t7, .int (-5), .int (10 ^ (39 : Int).toNat)], TV K S (upd (upd H13 p2 (.lst [V.int t7, .int (-5), .int (10 ^ (39 : Int).toNat)])) th (.lst (vs2 ++ [V.int t7, .int (-5), .int (10 ^ (39 : Int).toNat)]))) v := fun v m => by
    rcases List.mem_append.mp m with m | m
    · exact ((t12 v m).dr Sb d14).mono ext
    · simp only [List.mem_cons, List.not_mem_nil, or_false] at m
      rcases m with rfl | rfl | rfl
      · exact ⟨.int t7, .int _, okT_int t0 t1⟩
      · exact ⟨.int (-5), .int _, okT_lits (by simp)⟩
      · exact ⟨.int (10 ^ (39 : Int).toNat), .int _, okT_lits (by simp)⟩
  have e15 : (upd (upd H13 p2 (.lst [V.int t7, .int (-5), .int (10 ^ (39 : Int).toNat)])) th (.lst (vs2 ++ [V.int t7, .int (-5), .int (10 ^ (39 : Int).toNat)]))) th = some (.lst (vs2 ++ [V.int t7, .int (-5), .int (10 ^ (39 : Int).toNat)])) := upd_same
  have l3 : (vs2 ++ [V.int t7, .int (-5), .int (10 ^ (39 : Int).toNat)]).length = 47 := by rw [List.length_append, l2]; rfl
  generalize vs2 ++ [V.int t7, .int (-5), .int (10 ^ (39 : Int).toNat)] = vs3 at e15 t15 l3 d15 ⊢
  generalize upd (upd H13 p2 (.lst [V.int t7, .int (-5), .int (10 ^ (39 : Int).toNat)])) th (.lst vs3) = H15 at d15 e15 t15 ⊢
  have d415 := d49.trans d15
  refine ⟨.ref th, rfl, .inl ⟨rfl, _, .inl (.inl e15)⟩, .ref b, rfl, .ref l, rfl, b, l, _, rfl, d15.bag, .inl ⟨.inl (.inl (d415.kp _ _ nl el4)), nl⟩, by rw [refs_len]; exact kpos, by rw [refs_len]; omega, fun v H16 hv k16 b16 => ?_⟩
  obtain ⟨q, mq, rfl⟩ := List.mem_map.mp hv
  have d16 : Dr b H15 H16 := ⟨k16, b16⟩
  have d416 := d415.trans d16
  have e16 := k16 _ _ nth e15
  refine ⟨q.1, _, rfl, d416.seqT (tl4 q mq), fun p1 hp1 => ?_⟩
  have n1b := d16.bag.ne hp1
  have n1t : p1 ≠ th := fun z => by rw [z, e16] at hp1; cases hp1
  have du0 : Dr b H16 (upd H16 p1 (.tup (q.2.map V.str).reverse)) := Dr.new d16.bag hp1
  have f1 : (upd H16 p1 (.tup (q.2.map V.str).reverse)) p1 = some (.tup (q.2.reverse.map V.str)) := by rw [upd_same, List.map_reverse]
  generalize upd H16 p1 (.tup (q.2.map V.str).reverse) = H17 at du0 f1 ⊢
  have sqx := (d416.trans du0).seqT x4.sq
  have sqa := (d416.trans du0).seqT sq4
  refine ⟨.ref p, rfl, p, _, 0, .ref a0, rfl, rfl, sqx, rfl, .ref p, rfl, p, _, 0, .ref a0, rfl, rfl, sqx, rfl, 1, rfl, -1, rfl, a0, _, rfl, sqa, fun hw => ?_, fun hw p2 hp2 => ?_⟩
  · have du := du0
    obtain ⟨r2, er2⟩ : ∃ r2, r2 = W.tiles := ⟨_, rfl⟩
    have hu : SqT K H17 a0 (r2.map V.str) := by rw [er2]; exact sqa
    have rne : r2 ≠ [] := by rw [er2]; exact tne
    have rl : r2.length ≤ 4 := by rw [er2]; exact l4
    have rmem : ∀ x ∈ r2, x ∈ W.tiles := fun x m => by rw [er2] at m; exact m
    have f1 := f1
    refine ⟨a0, a0, _, _, rfl, rfl, (d416.trans du).seqT sq4, hu, few_line (by simp only [List.length_map]; omega), fun z => absurd (List.map_eq_nil_iff.mp z) tne, fun _ z => absurd (List.map_eq_nil_iff.mp z) rne, fun _ _ p3 hp3 => ?_⟩
    have dp3 := du.trans (Dr.new (o := .tup (W.tiles.map V.str ++ r2.map V.str)) du.bag hp3)
    have f13 := (Dr.new (o := .tup (W.tiles.map V.str ++ r2.map V.str)) du.bag hp3).kp _ _ n1b f1
    have f33 : (upd H17 p3 (.tup (W.tiles.map V.str ++ r2.map V.str))) p3 = some (.tup ((W.tiles ++ r2).map V.str)) := by
      rw [upd_same, List.map_append]
    have n3b := du.bag.ne hp3
    have n3t : p3 ≠ th := fun z => by
      have y := du.kp _ _ nth e16
      rw [← z, hp3] at y
      cases y
    generalize upd H17 p3 (.tup (W.tiles.map V.str ++ r2.map V.str)) = H18 at dp3 f13 f33 ⊢
    refine ⟨.ref b, rfl, .ref lt, rfl, b, lt, _, rfl, dp3.bag, .inl ⟨.inl (.inl ((d416.trans dp3).kp _ _ nlt elt4)), nlt⟩, by rw [refs_len]; exact tpos, by rw [refs_len]; omega, fun vz H20 hvz k20 b20 => ⟨few_line (by simp), fun p4 hp4 => ?_⟩⟩
    have d20 := dp3.trans ⟨k20, b20⟩
    have e20 := d20.kp _ _ nth e16
    have np4 : th ≠ p4 := ne_of_none e20 hp4
    refine ⟨th, p4, vs3, _, rfl, rfl, by rw [upd_ne np4]; exact e20, upd_same, few_line (by rw [l3]; simp), ?_⟩
    have s21 := same_new (o := .lst [V.ref p1, V.ref p3, vz, .bl true]) hp4
    have d21 := d20.trans (Dr.same d20.bag s21)
    have g1 := s21 _ _ (k20 _ _ n1b f13)
    have g3 := s21 _ _ (k20 _ _ n3b f33)
    have d22 := (d15.trans (d16.trans d21)).wr (o := .lst (vs3 ++ [V.ref p1, V.ref p3, vz, .bl true])) hth
    have e22 : (upd (upd H20 p4 (.lst [V.ref p1, V.ref p3, vz, .bl true])) th (.lst (vs3 ++ [V.ref p1, V.ref p3, vz, .bl true]))) th = some (.lst (vs3 ++ [V.ref p1, V.ref p3, vz, .bl true])) := upd_same
    have d422 := d49.trans d22
    have t22 : ∀ v ∈ vs3 ++ [V.ref p1, V.ref p3, vz, .bl true], TV K S (upd (upd H20 p4 (.lst [V.ref p1, V.ref p3, vz, .bl true])) th (.lst (vs3 ++ [V.ref p1, V.ref p3, vz, .bl true]))) v := fun v m => by
      rcases List.mem_append.mp m with m | m
      · exact ((t15 v m).dr Sb (d16.trans d21)).mono ext
      · simp only [List.mem_cons, List.not_mem_nil, or_false] at m
        rcases m with rfl | rfl | rfl | rfl
        · exact ⟨rowD q.2.reverse, Dq.hid (tupS d422.bag e22) (row_is (.inl (.inl (by rw [upd_ne n1t]; exact g1)))) (tup_row _), okT_row (fun x m => memT (kin q mq).2 x (List.mem_reverse.mp m)) (by rw [List.length_reverse]; have := (kin q mq).2.length_le; omega)⟩
        · exact ⟨rowD (W.tiles ++ r2), Dq.hid (tupS d422.bag e22) (row_is (.inl (.inl (by rw [upd_ne n3t]; exact g3)))) (tup_row _), okT_row (fun x m => (List.mem_append.mp m).elim (memT (List.Sublist.refl _) x) fun m => memT (List.Sublist.refl _) x (rmem x m)) (by rw [List.length_append]; omega)⟩
        · exact tvR d422 e22 ttl4 tin hvz
        · exact ⟨.bool true, .bl _, okT_lits (by simp)⟩
    have l5 : (vs3 ++ [V.ref p1, V.ref p3, vz, .bl true]).length ≤ 1000 := by rw [List.length_append, l3]; simp
    have TT := Tabs.dr hT (d4.trans d422)
    generalize vs3 ++ [V.ref p1, V.ref p3, vz, .bl true] = vs4 at e22 t22 l5 d22 d422 TT ⊢
    generalize upd (upd H20 p4 (.lst [V.ref p1, V.ref p3, vz, .bl true])) th (.lst vs4) = H22 at d22 d422 e22 t22 TT ⊢
    refine ⟨.ref th, rfl, th, rfl, ⟨_, .inl (.inl e22)⟩, for_list (K := K) (a := th) (xs := vs4) (fun _ σ H' => (∃ y7 y8 y9 y10 y11, σ = [z0, some (.ref b), z2, some (.ref p), some (.ref l), some (.ref lt), some (.ref th), y7, y8, y9, y10, y11, none]) ∧ ExtN H22 H' ∧ Tabs T H')
      ⟨⟨_, _, _, _, _, rfl⟩, ExtN.refl _, TT⟩ (fun _ σ H' _ h' => seqL_ext h'.2.1 (.inl (.inl e22))) ?_ ?_⟩
    · rintro i v σ H23 hv ⟨⟨y7, y8, y9, y10, y11, rfl⟩, x23, T23⟩
      obtain ⟨d, dq, okd⟩ := t22 v (List.mem_of_getElem? hv)
      exact qG _ H23 p lt W tls v d _ _ _ _ _ _ _ _ _ _ ((hW4.dr d422).ext x23) gW (x23 _ _ (d422.kp _ _ nlt elt4) fun ps z => by cases z) (Tups.ext x23 (ttl4.dr d422)) (fun q m x mx => gW.tileOk x ((tin q m).2.subset mx)) memt ((dq.mono hid_sub).ext x23) okd T23 fun y8 y9 y10 y11 H24 x24 T24 => ⟨⟨_, _, _, _, _, rfl⟩, x23.trans x24, T24⟩
    · rintro σ H23 ⟨⟨y7, y8, y9, y10, y11, rfl⟩, x23, T23⟩
      exact hN _ _ _ _ _ _ _ _ _ _ (bag_ext x23 d422.bag) T23
  · obtain ⟨r2, er2⟩ : ∃ r2, r2 = (W.tiles.drop (HT.sIx W.tiles.length 0 (some (-1)))).take (HT.sIx W.tiles.length W.tiles.length none - HT.sIx W.tiles.length 0 (some (-1))) := ⟨_, rfl⟩
    have ec : cutV (W.tiles.map V.str) (some (-1)) none = r2.map V.str := by
      rw [er2]
      unfold cutV
      rw [List.length_map, ← List.map_drop, ← List.map_take]
    rw [ec]
    have du := du0.trans (Dr.new (o := .tup (r2.map V.str)) du0.bag hp2)
    have hu : SqT K (upd H17 p2 (.tup (r2.map V.str))) p2 (r2.map V.str) := .inl (.inl upd_same)
    have f1 := same_new (o := .tup (r2.map V.str)) hp2 _ _ f1
    have tl0 := List.length_pos_iff.mpr tne
    have i1 : HT.sIx W.tiles.length 0 (some (-1)) = W.tiles.length - 1 := by
      show (if (-1 : Int) < 0 then ((-1 : Int) + (W.tiles.length : Int)).toNat else min (-1 : Int).toNat W.tiles.length) = _
      rw [if_pos (by decide)]
      omega
    have i2 : HT.sIx W.tiles.length W.tiles.length none = W.tiles.length := rfl
    have rl1 : r2.length = 1 := by
      rw [er2, i1, i2, List.length_take, List.length_drop]
      omega
    have rne : r2 ≠ [] := fun z => by
      rw [z] at rl1
      cases rl1
    have rl : r2.length ≤ 4 := by omega
    have rmem : ∀ x ∈ r2, x ∈ W.tiles := fun x m => by
      rw [er2] at m
      exact List.mem_of_mem_drop (List.mem_of_mem_take m)
    generalize upd H17 p2 (.tup (r2.map V.str)) = H17b at du hu f1 ⊢
    refine ⟨a0, p2, _, _, rfl, rfl, (d416.trans du).seqT sq4, hu, few_line (by simp only [List.length_map]; omega), fun z => absurd (List.map_eq_nil_iff.mp z) tne, fun _ z => absurd (List.map_eq_nil_iff.mp z) rne, fun _ _ p3 hp3 => ?_⟩
    have dp3 := du.trans (Dr.new (o := .tup (W.tiles.map V.str ++ r2.map V.str)) du.bag hp3)
    have f13 := (Dr.new (o := .tup (W.tiles.map V.str ++ r2.map V.str)) du.bag hp3).kp _ _ n1b f1
    have f33 : (upd H17b p3 (.tup (W.tiles.map V.str ++ r2.map V.str))) p3 = some (.tup ((W.tiles ++ r2).map V.str)) := by
      rw [upd_same, List.map_append]
    have n3b := du.bag.ne hp3
    have n3t : p3 ≠ th := fun z => by
      have y := du.kp _ _ nth e16
      rw [← z, hp3] at y
      cases y
    generalize upd H17b p3 (.tup (W.tiles.map V.str ++ r2.map V.str)) = H18 at dp3 f13 f33 ⊢
    refine ⟨.ref b, rfl, .ref lt, rfl, b, lt, _, rfl, dp3.bag, .inl ⟨.inl (.inl ((d416.trans dp3).kp _ _ nlt elt4)), nlt⟩, by rw [refs_len]; exact tpos, by rw [refs_len]; omega, fun vz H20 hvz k20 b20 => ⟨few_line (by simp), fun p4 hp4 => ?_⟩⟩
    have d20 := dp3.trans ⟨k20, b20⟩
    have e20 := d20.kp _ _ nth e16
    have np4 : th ≠ p4 := ne_of_none e20 hp4
    refine ⟨th, p4, vs3, _, rfl, rfl, by rw [upd_ne np4]; exact e20, upd_same, few_line (by rw [l3]; simp), ?_⟩
    have s21 := same_new (o := .lst [V.ref p1, V.ref p3, vz, .bl true]) hp4
    have d21 := d20.trans (Dr.same d20.bag s21)
    have g1 := s21 _ _ (k20 _ _ n1b f13)
    have g3 := s21 _ _ (k20 _ _ n3b f33)
    have d22 := (d15.trans (d16.trans d21)).wr (o := .lst (vs3 ++ [V.ref p1, V.ref p3, vz, .bl true])) hth
    have e22 : (upd (upd H20 p4 (.lst [V.ref p1, V.ref p3, vz, .bl true])) th (.lst (vs3 ++ [V.ref p1, V.ref p3, vz, .bl true]))) th = some (.lst (vs3 ++ [V.ref p1, V.ref p3, vz, .bl true])) := upd_same
    have d422 := d49.trans d22
    have t22 : ∀ v ∈ vs3 ++ [V.ref p1, V.ref p3, vz, .bl true], TV K S (upd (upd H20 p4 (.lst [V.ref p1, V.ref p3, vz, .bl true])) th (.lst (vs3 ++ [V.ref p1, V.ref p3, vz, .bl true]))) v := fun v m => by
      rcases List.mem_append.mp m with m | m
      · exact ((t15 v m).dr Sb (d16.trans d21)).mono ext
      · simp only [List.mem_cons, List.not_mem_nil, or_false] at m
        rcases m with rfl | rfl | rfl | rfl
        · exact ⟨rowD q.2.reverse, Dq.hid (tupS d422.bag e22) (row_is (.inl (.inl (by rw [upd_ne n1t]; exact g1)))) (tup_row _), okT_row (fun x m => memT (kin q mq).2 x (List.mem_reverse.mp m)) (by rw [List.length_reverse]; have := (kin q mq).2.length_le; omega)⟩
        · exact ⟨rowD (W.tiles ++ r2), Dq.hid (tupS d422.bag e22) (row_is (.inl (.inl (by rw [upd_ne n3t]; exact g3)))) (tup_row _), okT_row (fun x m => (List.mem_append.mp m).elim (memT (List.Sublist.refl _) x) fun m => memT (List.Sublist.refl _) x (rmem x m)) (by rw [List.length_append]; omega)⟩
        · exact tvR d422 e22 ttl4 tin hvz
        · exact ⟨.bool true, .bl _, okT_lits (by simp)⟩
    have l5 : (vs3 ++ [V.ref p1, V.ref p3, vz, .bl true]).length ≤ 1000 := by rw [List.length_append, l3]; simp
    have TT := Tabs.dr hT (d4.trans d422)
    generalize vs3 ++ [V.ref p1, V.ref p3, vz, .bl true] = vs4 at e22 t22 l5 d22 d422 TT ⊢
    generalize upd (upd H20 p4 (.lst [V.ref p1, V.ref p3, vz, .bl true])) th (.lst vs4) = H22 at d22 d422 e22 t22 TT ⊢
    refine ⟨.ref th, rfl, th, rfl, ⟨_, .inl (.inl e22)⟩, for_list (K := K) (a := th) (xs := vs4) (fun _ σ H' => (∃ y7 y8 y9 y10 y11, σ = [z0, some (.ref b), z2, some (.ref p), some (.ref l), some (.ref lt), some (.ref th), y7, y8, y9, y10, y11, none]) ∧ ExtN H22 H' ∧ Tabs T H')
      ⟨⟨_, _, _, _, _, rfl⟩, ExtN.refl _, TT⟩ (fun _ σ H' _ h' => seqL_ext h'.2.1 (.inl (.inl e22))) ?_ ?_⟩
    · rintro i v σ H23 hv ⟨⟨y7, y8, y9, y10, y11, rfl⟩, x23, T23⟩
      obtain ⟨d, dq, okd⟩ := t22 v (List.mem_of_getElem? hv)
      exact qG _ H23 p lt W tls v d _ _ _ _ _ _ _ _ _ _ ((hW4.dr d422).ext x23) gW (x23 _ _ (d422.kp _ _ nlt elt4) fun ps z => by cases z) (Tups.ext x23 (ttl4.dr d422)) (fun q m x mx => gW.tileOk x ((tin q m).2.subset mx)) memt ((dq.mono hid_sub).ext x23) okd T23 fun y8 y9 y10 y11 H24 x24 T24 => ⟨⟨_, _, _, _, _, rfl⟩, x23.trans x24, T24⟩
    · rintro σ H23 ⟨⟨y7, y8, y9, y10, y11, rfl⟩, x23, T23⟩
      exact hN _ _ _ _ _ _ _ _ _ _ (bag_ext x23 d422.bag) T23
end
end K01

namespace K01
open PySem PySem.Spec PyProof.Rows L2 LamX NdefX Ly
section
variable {P : Program} {w : World} {K : PySem.W.Frag} {mg : Str → Option Value} {base : Heap} {f : Addr} {fd : FuncData} {T : List (Addr × Str)}
def spLaw (K : PySem.W.Frag) (T : List (Addr × Str)) : Sp := fun vs H Q _ => ∃ (a : Addr) (ns : List Int), vs = [.ref a] ∧ SqL K H a (ns.map V.int) ∧ ns.length ≤ 63 ∧ Tabs T H ∧ ∀ H', Q (.bl true) H'
theorem ok_law (F : FnP K "law" i_law f fd) (T0 : Txt K mg) (TK : TabsK K base mg T) : FnG P w K mg base CX0 7 f fd ["script"] (spLaw K T) := by
  obtain ⟨_, FB⟩ := T0.fun_ "_law_bag" i_law_bag (by decide +kernel)
  have gB := T0.glo "_law_bag" (by decide +kernel)
  have mrg := T0.free "range" (by decide +kernel)
  have GB : FnOk P w K mg base CX0 1 _ _ ["script"] (spBag K) := ok_bag FB (T0.free "abs" (by decide +kernel))
  have bB : Binds K _ ["script"] [] := FB.bindsN fun _ _ _ _ _ _ us hl => match us, hl with | [_], _ => rfl
  refine Ly.FunD.okG F scLaw (fun vs H Q E h => ?_) (fun cd A outer s H vs Q E hG hr h => ?_)
  · obtain ⟨a, ns, rfl, _⟩ := h
    rfl
  · obtain ⟨a, ns, rfl, hA, hl, hT, hQ⟩ := h
    obtain ⟨tB, hB, qB⟩ := blkTurn (P := P) (w := w) (base := base) (outer := outer) (H0 := H) (E := E) T0 TK hG hr
    refine ⟨_, PSs.nox (pss_cons (ps_set (i := 1) scLaw.nd rfl (.inr rfl) (pe_call GB (hr.mono (by decide)) (by rfl) gB FB.kp bB .nil pass0 (pa_cons (pv 0) pa_nil)))
      (pss_cons (ps_for PassesOwn.never rfl (pi_range1 rfl mrg (pa_cons pe_int pa_nil)) (pg_name (i := 2) scLaw.nd rfl (.inl rfl)) hB)
      (pss_one (ps_ret pe_bl)))), ?_⟩
    refine ⟨.ref a, rfl, a, ns, rfl, hA, hl, fun b H1 s1 n1 b1 => ?_⟩
    refine ⟨3, rfl, by decide, by decide, for_range (n := 3) (fun _ σ H' => (∃ y2 y3 y4 y5 y6 y7 y8 y9 y10 y11, σ = [some (.ref a), some (.ref b), y2, y3, y4, y5, y6, y7, y8, y9, y10, y11, none]) ∧ IsBag H' b ∧ Tabs T H')
      ⟨⟨_, _, _, _, _, _, _, _, _, _, rfl⟩, b1, hT.ext s1⟩ ?_ ?_⟩
    · rintro j σ H2 hj ⟨⟨y2, y3, y4, y5, y6, y7, y8, y9, y10, y11, rfl⟩, hb, T2⟩
      exact qB _ H2 b _ _ _ _ _ _ _ _ _ _ _ hb T2 fun y3 y4 y5 y6 y7 y8 y9 y10 y11 H3 b3 T3 => ⟨⟨_, _, _, _, _, _, _, _, _, _, rfl⟩, b3, T3⟩
    · exact fun σ H2 _ => hQ _
end
/-- the tables of the law's defs -/
def tq : List Str := ["is_lot.<locals>.<lambda>", "_law_is_lot.<locals>.<lambda>"]
def lamT (K : PySem.W.Frag) : List (Addr × Str) := [((He.cT K ("is_lot", none)).2, "is_lot.<locals>.<lambda>"), ((He.cT K ("_law_is_lot", none)).2, "_law_is_lot.<locals>.<lambda>")]
theorem tabs_ne {K : PySem.W.Frag} {mg : Str → Option Value} (T0 : Txt K mg) : (He.cT K ("is_lot", none)).2 ≠ (He.cT K ("_law_is_lot", none)).2 := fun e => by
  have z := T0.two
  have z : ([(He.cT K ("is_lot", none)).2, (He.cT K ("_law_is_lot", none)).2] : List Addr).Nodup := z
  rw [e] at z
  simp at z
theorem tabs_k {K : PySem.W.Frag} {mg : Str → Option Value} {base : Heap} (T0 : Txt K mg) (h : ∀ c t, (c, t) ∈ tabs K → TabB base mg c t) : TabsK K base mg (lamT K) := by
  have ne := tabs_ne T0
  refine ⟨⟨(He.cT K ("is_lot", none)).2, ⟨h _ _ List.mem_cons_self, List.mem_cons_self, fun p hp e => ?_⟩⟩, ⟨(He.cT K ("_law_is_lot", none)).2, ⟨h _ _ (List.mem_cons_of_mem _ List.mem_cons_self), List.mem_cons_of_mem _ List.mem_cons_self, fun p hp e => ?_⟩⟩⟩
  · unfold lamT at hp
    simp only [List.mem_cons, List.not_mem_nil, or_false] at hp
    rcases hp with rfl | rfl
    · rfl
    · exact absurd e.symm ne
  · unfold lamT at hp
    simp only [List.mem_cons, List.not_mem_nil, or_false] at hp
    rcases hp with rfl | rfl
    · exact absurd e ne
    · rfl
theorem tabs_nil {K : PySem.W.Frag} {H : Hp} (h : ∀ c t, (c, t) ∈ tabs K → H t = some (.tbl #[])) : Tabs (lamT K) H := fun p hp => by
  unfold lamT at hp
  simp only [List.mem_cons, List.not_mem_nil, or_false] at hp
  rcases hp with rfl | rfl
  · exact TabS.nil (h _ _ List.mem_cons_self)
  · exact TabS.nil (h _ _ (List.mem_cons_of_mem _ List.mem_cons_self))
end K01

open PySem PySem.W PySem.Calls PyProof.Rows
theorem PySem.Challenge.cw_laidanyhow_k01_names_lots_of_any_value_holds : PySem.Challenge.rw_laidanyhow_k01_names_lots_of_any_value.Holds := by
  w_on; o_law
  refine HandSHeadRun.head_any (r := OpenLaw.row PySem.Challenge.rw_laidanyhow_k01_names_lots_of_any_value) (q := view (OpenLaw.row PySem.Challenge.rw_laidanyhow_k01_names_lots_of_any_value).prog [30]) (H := K01.hk) (ob := K01.ob) (M := 5000)
    (loose := K01.loose) (d := HandSHeadRun.topDef (OpenLaw.row PySem.Challenge.rw_laidanyhow_k01_names_lots_of_any_value).prog 30) (kwd := []) K01.ob_eq
    (by kernel_rfl) (fun s => by kernel_rfl) K01.run (by kernel_rfl) (by kernel_rfl) (by kernel_rfl) (by rfl) (by first | assumption | decide +kernel) (by decide +kernel) ⟨rfl, rfl, rfl, rfl, rfl, by decide +kernel⟩ ?hw ?hc
  case hw => w_witness2
  case hc =>
    refine Ly.walkT (l := PySem.Challenge.rw_laidanyhow_k01_names_lots_of_any_value) (n := 63) (k := 7) (x := "script") (CX := fun _ => L2.CX0) rfl (by decide) (by kernel_rfl) ⟨rfl, by decide, by decide⟩ ?F (fun _ _ _ _ _ z => z)
    intro w mg fa h Y G hmg0
    obtain ⟨K, KX, c⟩ := Y
    have hmg : mg ("law" : PySem.Str) = some (.ref fa) := by
      have e : (HandSHeadRun.topDef (OpenLaw.row PySem.Challenge.rw_laidanyhow_k01_names_lots_of_any_value).prog 30).name = ("law" : PySem.Str) := by kernel_rfl
      rw [← e]
      exact hmg0
    have T := K01.txt_of KX G c
    have e := hmg.symm.trans (T.glo "law" (by decide +kernel))
    cases e
    obtain ⟨fd, F⟩ := T.fun_ "law" 30 (by decide +kernel)
    refine ⟨K, fd, K01.spLaw K (K01.lamT K), K01.tabs K, KX, K01.tabs_of KX c, fun s v => L2.FunD.bindsA (ps := ["script"]) F (fun _ _ _ _ _ _ us hl => match us, hl with | [_], _ => rfl) s [v] rfl, fun H a ns hl hH hS => ⟨a, ns, rfl, hS, hl, K01.tabs_nil hH, fun _ => rfl⟩, fun base _ _ hT => K01.ok_law F T (K01.tabs_k T hT)⟩
