import PyProof.Rows.All
import Wide.All
import OpenK.AllK
import Wide.FinOn
import PyProof.ReprRoads
import HandS.ForMost
import HandS.Defaults
import HandS.More
import PyProof.ReprBulk
import HandS.RaiseMore
import KE.KStateDown
import HandS.Exc
import HandS.ExcInit
import HandS.ExcField
import HandS.ExcIs
import HandS.Head0
import HandS.Head1
import HandS.Head2
import HandS.HeadEnd
import HandS.HeadHook1
import HandS.HeadHook2
import HandS.HeadHook4
import HandS.Wide
import HandS.TryMany
import KE.KExcIs
import PyProof.DictUpdate
import HandS.TryOnly
import HandS.WordsExc
import PySem.Challenge.RW_laidanyhow_k00_errors_of_any_values
set_option Elab.async false
set_option linter.all false
set_option maxRecDepth 100000
set_option maxHeartbeats 0
namespace Ly
open PySem PySem.Spec PyProof.Rows L2
/-! defs that are only called where no repr is under way -/
section
variable {P : Program} {w : World} {K : PySem.W.Frag} {mg : Str → Option Value} {base : Heap} {CX : CXT}
/-- as FnOk, for places where nothing of repr is under way -/
structure FnG (P : Program) (w : World) (K : PySem.W.Frag) (mg : Str → Option Value) (base : Heap) (CX : CXT)
    (k : Nat) (f : Addr) (fd : FuncData) (ps : List Str) (sp : Sp) : Prop where
  size : ∀ vs H Q E, sp vs H Q E → vs.length = ps.length
  go : ∀ (A : Around) (out : List Env) (s : Shared) (H : Hp) (ag : Args) (us : List Value) (vs : List V) (Q : VK) (E : XK),
    A.guards = some [] → Room k A → Env0 P w K mg base A out s H → BindsTo s fd ag (ps.zip us) → Vals vs us → sp vs H Q E →
      codeAny (model P w) A (.call (.ref f) ag) (CR CX out P w H s Q E) s

theorem FunD.okG {x qual : Str} {params : Arguments} {body : List Stmt} {sc : Scope} {dvs : List V} {kws : List (Str × V)} {f : Addr} {fd : FuncData} {N ps : List Str} {k : Nat} {sp : Sp}
    (F : FunD K x qual params body sc dvs kws f fd) (S : FnScope N ps sc) (size : ∀ vs H Q E, sp vs H Q E → vs.length = ps.length)
    (B : ∀ (cd : Value) (A : Around) (out : List Env) (s : Shared) (H : Hp) (vs : List V) (Q : VK) (E : XK), A.guards = some [] →
      Room k (A.deeper (envOfC qual sc s.heap.objs.size f cd)) → sp vs H Q E →
      ∃ t, PSs (cxOf CX P w K mg base N qual sc f cd A out s H E) body t ∧ t { nx := fun _ H' => Q .non H', rt := Q } (start N vs) H) :
    FnG P w K mg base CX (k + 1) f fd ps sp := by
  obtain ⟨oc, od, dV, kV, doc, pm, an, cd, ct, osl, rfl, lk, hc, _, _⟩ := F.ex
  constructor
  · exact size
  intro A out s H ag us vs Q E hG hR e0 hB hV hS
  have hn := size _ _ _ _ hS
  have hK : K.In s.heap := e0.mod.kin.keeps fun b o z => (e0.bs b o z).1
  have hL : s.heap.NoLimit := e0.mod.nolimit.keeps fun b o z => (e0.bs b o z).1
  have hk : ∀ y ∈ ps.zip us, sc.names.lookup y.1 = some .local ∨
      (sc.names.lookup y.1 = some .cell ∧ ((cellsFrom (s.heap.objs.size + 1) sc.names []).lookup y.1).isSome = true) := by
    rintro ⟨n, v⟩ hy
    rcases S.par n (List.of_mem_zip hy).1 with z | z
    · exact Or.inl z
    · exact Or.inr ⟨z, PySem.W.cellsFrom_some _ _ _ (Or.inl z)⟩
  refine codeAny_call_function hR.depth (hK _ _ lk) rfl S.co S.gen rfl
    (PySem.W.codeRec_of hK hc) (hB _ _ _ _ ?_)
  refine wpAny_newFunctionEnv_cells S.kind hk
    fun env hv s1 X1 => ?_
  subst hv
  refine ⟨hL.keeps X1.toInCall.keep, ?_⟩
  refine codeAny_func ?_
  obtain ⟨t, ht, hq⟩ := B cd A out s H vs Q E hG (hR.deeper _) hS
  have J := inv_start (CX := CX) (E := E) S hR.hd e0 hn hV X1
  refine wpAny_mono (ht.run [] s1 (start N vs) H _ J hq) (fun fl s' z => ?_) (fun _ _ z => z)
  cases fl with
  | next =>
    obtain ⟨σ', H', I', q⟩ := z
    exact ⟨.non, H', I'.os, I'.bare, I'.base, I'.hok, rfl, q⟩
  | ret u =>
    obtain ⟨v, σ', H', I', rv, q⟩ := z
    exact ⟨v, H', I'.os, I'.bare, I'.base, I'.hok, rv, q⟩
  | brk => obtain ⟨_, _, _, q⟩ := z; exact q.elim
  | cont => obtain ⟨_, _, _, q⟩ := z; exact q.elim

theorem FnG.of {k : Nat} {f : Addr} {fd : FuncData} {ps : List Str} {sp : Sp} (F : FnOk P w K mg base CX k f fd ps sp) : FnG P w K mg base CX k f fd ps sp :=
  ⟨F.len, fun A out s H ag us vs Q E _ => F.run A out s H ag us vs Q E⟩
end
section
variable {X : Cx} {CX : CXT} {k : Nat} {f : Addr} {fd : FuncData} {ps : List Str} {sp : Sp} {dvs : List V} {ds : List Value} {E : XK} {x : Str} {p pos : Pos} {e : Expr} {es : List Expr} {t : TA}
/-- a call of such a def -/
theorem pe_callG (F : FnG X.prog X.w X.K X.mg X.base CX k f fd ps sp) (hG : X.A.guards = some []) (hR : Room k X.A) (hx : Gl X x) (hm : X.mg x = some (.ref f))
    (kp : PySem.W.keepIn X.K (.ref f) = true) (hb : Binds X.K fd ps ds) (hd : Vals dvs ds) (hp : Passes CX X E) (ha : PA X (e :: es) t)
    (h1 : (x == ("__debug__" : Str)) = false := by decide) (h2 : starEach (e :: es) X.env = (false, eval e X.env) :: starEach es X.env := by rfl)
    (h3 : (backTo pos (starEach es X.env)).any (·.1) = false := by rfl) : PE X (.Call (.Name x p) (e :: es) [] pos) (tCall sp dvs E t) := by
  constructor
  intro pins s σ H Q I h
  refine wpAny_Call_Name_kw (ld_glob I hx hm ?_ h1)
  refine PySem.W.callWith_K (h₀ := X.base) I.ok.mod.kin kp
    (thn (ha.run pos pins s σ H _ I h) fun us s1 z => ?_) h2 h3
  obtain ⟨vs, H1, I1, r, q⟩ := z
  refine ⟨I1.kIn, ?_⟩
  have r2 : Vals (vs ++ dvs) (us ++ ds) := Vals.append r hd
  have hl : (us ++ ds).length = ps.length := by
    have := F.size _ _ _ _ q
    have := r2.length
    omega
  refine wpAny_call (codeAny_mono (F.go X.A X.stack s1 H1 ⟨us, []⟩ (us ++ ds) (vs ++ dvs) Q E hG hR I1.env0 (hb s1 us I1.kIn hl) r2 q) ?_)
  intro r s' z
  match r, z with
  | .error er, z => exact hp pins σ H1 s1 er s' I1 z
  | .ok (.ret u), z => exact I1.after z
  | .ok .next, z => exact z.elim
  | .ok .brk, z => exact z.elim
  | .ok .cont, z => exact z.elim
end
/-! the law's own call -/
theorem lawG {P : Program} {w : World} {K : PySem.W.Frag} {mg mb : Str → Option Value} {CX : CXT} {k : Nat} {fa a : Addr} {fd : FuncData} {x : Str} {sp : Sp} {s : Shared} {vs : List Value} {ns : List Int}
    (hK : K.In s.heap) (hG : s.heap.Ns mainGlobals mg) (hB : s.heap.Ns builtinsNs mb) (hBB : ∀ x : Str, x ≠ "__name__" → mb x = bootBuiltins x) (hL : s.heap.NoLimit) (hg : s.gens = #[])
    (ha : s.heap.get? a = some { cls := .type "list", data := .seq vs.toArray }) (hi : IntsAre vs ns) (hl : ns.length ≤ sizeLine) (hR : Room k callerA)
    (F : ∀ base : Heap, K.In base → base.Ns mainGlobals mg → FnG P w K mg base CX k fa fd [x] sp) (hb : ∀ (s : Shared) (u : Value), BindsTo s fd ⟨[u], []⟩ [(x, u)])
    (hsp : ∀ H : Hp, Only H → SqL K H a (ns.map V.int) → sp [.ref a] H (fun v _ => v = .bl true) fun _ _ _ => False)
    (hCX : ∀ H e s', CX [] H s (fun _ _ _ => False) e s' → False) :
    codeAny (model P w) callerA (.call (.ref fa) ⟨[.ref a], []⟩) (fun r s' => r = .ok (.ret (.bool true)) ∧ OldK s.heap s'.heap ∧ s'.os = s.os ∧ AllBare s'.gens) s := by
  have go : ∀ H : Hp, Only H → SqL K H a (ns.map V.int) → HOk P w H s.heap → (∀ b u, H b = some u → b = a) → ((∃ u, H a = some u) → K.lookup a = none) →
      codeAny (model P w) callerA (.call (.ref fa) ⟨[.ref a], []⟩) (fun r s' => r = .ok (.ret (.bool true)) ∧ OldK s.heap s'.heap ∧ s'.os = s.os ∧ AllBare s'.gens) s := by
    intro H hO hS ok hA hKa
    have up : ∀ {b : Addr} {o : Obj}, s.heap.get? b = some o → H b = none → (hidT s.heap H).get? b = some o := fun z n => hidT_get z n
    have nod : ∀ {b : Addr} {o : Obj} {es : Array DictEntry} {ep : Nat}, s.heap.get? b = some o → o.data = .dict es ep → H b = none := by
      intro b o es ep z d
      match q : H b with
      | none => rfl
      | some u =>
        have e' := hA b u q
        subst e'
        rw [ha] at z
        cases z
        cases d
    have ns2 : ∀ {b : Addr} {m : Str → Option Value}, s.heap.Ns b m → (hidT s.heap H).Ns b m := by
      rintro b m ⟨o, es, ep, z, d, r⟩
      exact ⟨o, es, ep, up z (nod z d), d, r⟩
    have k2 : K.In (hidT s.heap H) := by
      intro b o z
      refine up (hK b o z) ?_
      match q : H b with
      | none => rfl
      | some u =>
        have e' := hA b u q
        subst e'
        rw [hKa ⟨u, q⟩] at z
        cases z
    have m2 : Mod K mg (hidT s.heap H) := by
      obtain ⟨mc, l1, l2⟩ := hL
      exact ⟨k2, ns2 hG, ⟨mb, ns2 hB, hBB⟩, ⟨mc, ns2 l1, l2⟩⟩
    have none2 : ∀ b : Addr, b ∉ frs [] := fun b z => (List.not_mem_nil : b ∉ ([] : List Addr)) z
    have e0 : Env0 P w K mg (hidT s.heap H) callerA [] s H :=
      ⟨rfl, m2, fun b o z => of_hidT z, Nat.le_of_eq (hidT_size _ _), trivial, fun b z => absurd z (none2 b), ok, .of_eq hg⟩
    refine codeAny_mono ((F _ k2 (ns2 hG)).go callerA [] s H ⟨[.ref a], []⟩ [.ref a] [.ref a] _ _ rfl hR e0 (hb s (.ref a)) (.cons rfl .nil) (hsp H hO hS)) ?_
    intro r s' z
    match r, z with
    | .error e, z => exact (hCX H e s' z).elim
    | .ok .next, z => exact z.elim
    | .ok .brk, z => exact z.elim
    | .ok .cont, z => exact z.elim
    | .ok (.ret u), z =>
      obtain ⟨v, H', os, bare, un, ok', rv, q⟩ := z
      have q : v = .bl true := q
      subst q
      have eu : u = Value.bool true := rv
      subst eu
      refine ⟨rfl, OldK.of_keep fun b o z => ?_, os, bare⟩
      match q : H b with
      | none => exact un.keep b o z q (none2 b) (fun y => (List.not_mem_nil : b ∉ ([] : List Addr)) y)
      | some u =>
        rcases hO b with y | ⟨ob, xs, y⟩
        · rw [q] at y
          cases y
        · have y2 := un.frzs b ob _ y
          have e1 := (ok b _ y).1
          have e2 := (ok' b _ y2).1
          rw [z] at e1
          cases e1
          exact e2
  have rv : Vals (ns.map V.int) vs := vals_ints hi
  match hk : K.lookup a with
  | some o =>
    have z := hK a o hk
    rw [ha] at z
    cases z
    refine go (fun _ => none) (fun _ => Or.inl rfl) (Or.inr ⟨_, vs.toArray, _, hk, rfl, rfl, rfl, ?_, ?_⟩) (fun b u z => nomatch z) (fun b u z => nomatch z) fun ⟨u, z⟩ => nomatch z
    · rw [List.size_toArray, hi.length]
      exact hl
    · simpa using rv
  | none =>
    let H0 : Hp := fun b => if b = a then some (.frz { cls := .type "list", data := .seq vs.toArray } (.lst (ns.map V.int))) else none
    have at0 : H0 a = some (.frz { cls := .type "list", data := .seq vs.toArray } (.lst (ns.map V.int))) := if_pos rfl
    have ne0 : ∀ b, b ≠ a → H0 b = none := fun b z => if_neg z
    have is0 : ∀ b u, H0 b = some u → b = a := by
      intro b u z
      by_cases y : b = a
      · exact y
      · rw [ne0 b y] at z
        cases z
    refine go H0 (fun b => ?_) (Or.inl (Or.inr ⟨_, at0⟩)) (fun b u z => ?_) is0 fun _ => hk
    · by_cases y : b = a
      · subst y
        exact Or.inr ⟨_, _, at0⟩
      · exact Or.inl (ne0 b y)
    · have y := is0 b u z
      subst y
      rw [at0] at z
      cases z
      exact ⟨ha, by rw [List.length_map]; exact hl, vs, _, rv, ha⟩

theorem walkG {l : PySem.W.OpenLaw} {n k : Nat} {q : Program} {loose : List Str} {XP : (Str → Option Value) → Heap → Prop} {YP : World → Heap → Prop} {d : DefRec} {CX : World → CXT} {x : Str}
    (hn : l.most = some n) (hn2 : n ≤ sizeLine) (hdf : d.params.defaults = []) (hR : Room k callerA)
    (F : ∀ (w : World) (mg : Str → Option Value) (fa : Addr) (h : Heap), YP w h → h.Ns mainGlobals mg → mg d.name = some (.ref fa) →
      ∃ (K : PySem.W.Frag) (fd : FuncData) (sp : Sp), K.In h ∧ (∀ (s : Shared) (u : Value), BindsTo s fd ⟨[u], []⟩ [(x, u)]) ∧
        (∀ (H : Hp) (a : Addr) (ns : List Int), ns.length ≤ n → Only H → SqL K H a (ns.map V.int) → sp [.ref a] H (fun v _ => v = .bl true) fun _ _ _ => False) ∧
        ∀ base : Heap, K.In base → base.Ns mainGlobals mg → FnG l.prog w K mg base (CX w) k fa fd [x] sp)
    (hCX : ∀ (w : World) (H : Hp) (s : Shared) (e : Value) (s' : Shared), CX w [] H s (fun _ _ _ => False) e s' → False) :
    PySem.W.WalkO q loose XP YP l.row.toRowW d [] (fun f vs => PySem.call f vs) := by
  refine Att.attach_call hn hdf ?_
  intro w s₀ s mg mb fa o pm cd doc a vs ns G Y ho hd hcd hmg hobj hints hlen hg
  obtain ⟨K, fd, sp, hK, hb, hsp, hF⟩ := F w mg fa _ Y G.T.g hmg
  exact lawG hK G.T.g G.T.b G.T.builtins G.T.nolimit hg hobj hints (Nat.le_trans hlen hn2) hR hF hb
    (fun H hO hS => hsp H a ns hlen hO hS) fun H e s' => hCX w H s e s'
end Ly

namespace Ly
open PySem PySem.Spec PyProof.Rows L2
/-! data: what a value stands for, dicts with int and text keys too -/
def keyD : Key → PyData
  | .inl i => .int i
  | .inr x => .str x
mutual
inductive Dq (K : PySem.W.Frag) (H : Hp) : V → PyData → Prop
  | non : Dq K H .non .none
  | bl (b : Bool) : Dq K H (.bl b) (.bool b)
  | int (i : Int) : Dq K H (.int i) (.int i)
  | str (x : Str) : Dq K H (.str x) (.str x)
  | lst {a : Addr} {xs : List V} {ds : List PyData} : SqL K H a xs → DqA K H xs ds → Dq K H (.ref a) (.list ds)
  | tup {a : Addr} {xs : List V} {ds : List PyData} : SqT K H a xs → DqA K H xs ds → Dq K H (.ref a) (.tuple ds)
  | dic {a : Addr} {kvs : List (Key × V)} {ds : List PyData} : H a = some (.dK kvs) → DqA K H (kvs.map (·.2)) ds →
      Dq K H (.ref a) (.dict ((kvs.map fun p => keyD p.1).zip ds))
inductive DqA (K : PySem.W.Frag) (H : Hp) : List V → List PyData → Prop
  | nil : DqA K H [] []
  | cons {v : V} {vs : List V} {d : PyData} {ds : List PyData} : Dq K H v d → DqA K H vs ds → DqA K H (v :: vs) (d :: ds)
end
theorem DqA.length {K : PySem.W.Frag} {H : Hp} : ∀ {vs : List V} {ds : List PyData}, DqA K H vs ds → vs.length = ds.length
  | _, _, .nil => rfl
  | _, _, .cons _ h => congrArg Nat.succ h.length
/-- the dict of the modules stands in the written part -/
def SysD (K : PySem.W.Frag) : Prop := ∃ o, K.lookup sysModules = some o ∧ o.cls = .type "dict"
theorem keys_reads {prog : Program} {w : World} {h : Heap} {kvs : List (Key × V)} {vs : List (Key × Value)} (r : KV kvs vs) :
    ∀ {es : List DictEntry}, Pairs (mixKind prog w) es vs → ReadsAll h (es.map (·.key)) (kvs.map fun p => keyD p.1) [] ∧ Vals (kvs.map (·.2)) (es.map (·.val)) := by
  unfold KV at r
  induction r with
  | nil =>
    intro es p
    cases p
    exact ⟨.nil, .nil⟩
  | @cons a b l1 l2 hab _ ih =>
    intro es p
    cases p with
    | @cons e _ es2 _ hk hv ht =>
      obtain ⟨i1, i2⟩ := ih ht
      obtain ⟨k, v⟩ := a
      obtain ⟨k', u⟩ := b
      obtain ⟨rfl, rv⟩ := hab
      refine ⟨?_, ?_⟩
      · have hk' : keyIs k e.key = true := hk
        have key : ∃ as, as = ([] : List Addr) ∧ Reads h e.key (keyD k) as := by
          rcases keyIs_shape hk' with ⟨i, t, e1, e2⟩ | ⟨x, t, e1, e2⟩
          · rw [e1, e2]
            exact ⟨_, rfl, .int i t⟩
          · rw [e1, e2]
            exact ⟨_, rfl, .str x t⟩
        obtain ⟨as, rfl, rk⟩ := key
        exact ReadsAll.cons rk i1
      · show Vals (v :: l1.map (·.2)) (e.val :: es2.map (·.val))
        rw [hv]
        exact .cons rv i2
section
variable {X : Cx} {pins : List (Addr × Obj)} {σ : L2.St} {H : Hp} {s : Shared}
theorem ne_sys (hS : SysD X.K) (I : Inv X pins σ H s) {a : Addr} {o : Obj} (ho : s.heap.get? a = some o) (hc : o.cls = .type "list") : a ≠ sysModules := by
  rintro rfl
  obtain ⟨o', h1, h2⟩ := hS
  have h3 := I.kIn _ _ h1
  rw [ho] at h3
  cases h3
  rw [hc] at h2
  exact absurd h2 (by decide)
mutual
theorem Dq.reads (hS : SysD X.K) (I : Inv X pins σ H s) : ∀ {v : V} {d : PyData}, Dq X.K H v d → ∀ {u : Value}, RelV v u → ∃ as, Reads s.heap u d as ∧ sysModules ∉ as
  | _, _, .non, _, r => by
    cases r
    exact ⟨_, Reads.none, by simp⟩
  | _, _, .bl b, _, r => by
    cases r
    exact ⟨_, Reads.bool b, by simp⟩
  | _, _, .int i, _, r => by
    obtain ⟨t, rfl⟩ := r
    exact ⟨_, Reads.int i t, by simp⟩
  | _, _, .str x, _, r => by
    obtain ⟨t, rfl⟩ := r
    exact ⟨_, Reads.str x t, by simp⟩
  | _, _, .lst hs ha, _, r => by
    cases r
    obtain ⟨its, rv, ⟨o, n, ho, hc, _, hd⟩, _⟩ := I.list hs
    obtain ⟨as, hr, hn⟩ := DqA.reads hS I ha rv
    refine ⟨_, Reads.list ho hc hd hr, ?_⟩
    intro hm
    rcases List.mem_cons.mp hm with z | z
    · exact ne_sys hS I ho hc z.symm
    · exact hn z
  | _, _, .tup hs ha, _, r => by
    cases r
    obtain ⟨its, rv, ⟨o, ho, hc, n, hd⟩, _⟩ := I.tuple hs
    obtain ⟨as, hr, hn⟩ := DqA.reads hS I ha rv
    exact ⟨_, Reads.tuple ho hc hd hr, hn⟩
  | _, _, .dic (a := a) (kvs := kvs) (ds := ds) hs ha, _, r => by
    cases r
    obtain ⟨_, hb, vs, rkv, o, es, ep, ho, hx, hd, _, hp, _⟩ := (show ObjOk X.prog X.w H s.heap a (.dK kvs) from I.hok a _ hs)
    obtain ⟨rk, rv⟩ := keys_reads (h := s.heap) rkv hp
    obtain ⟨as, hr, hn⟩ := DqA.reads hS I ha rv
    have hl : kvs.length = ds.length := by
      have := ha.length
      rw [List.length_map] at this
      exact this
    have e1 : ((kvs.map fun p => keyD p.1).zip ds).map (·.1) = kvs.map fun p => keyD p.1 := by
      rw [List.map_fst_zip]
      rw [List.length_map]
      omega
    have e2 : ((kvs.map fun p => keyD p.1).zip ds).map (·.2) = ds := by
      rw [List.map_snd_zip]
      rw [List.length_map]
      omega
    refine ⟨_, Reads.dict ho hx.1 hd (by rw [e1]; exact rk) (by rw [e2]; exact hr), ?_⟩
    intro hm
    rcases List.mem_append.mp hm with z | z
    · rcases List.mem_cons.mp z with z | z
      · rw [← z] at hb
        simp at hb
      · exact nomatch z
    · exact hn z
theorem DqA.reads (hS : SysD X.K) (I : Inv X pins σ H s) : ∀ {vs : List V} {ds : List PyData}, DqA X.K H vs ds → ∀ {us : List Value}, Vals vs us → ∃ as, ReadsAll s.heap us ds as ∧ sysModules ∉ as
  | _, _, .nil, _, r => by
    cases r
    exact ⟨_, ReadsAll.nil, by simp⟩
  | _, _, .cons h1 h2, _, r => by
    cases r with
    | cons r1 r2 =>
      obtain ⟨as, q1, n1⟩ := Dq.reads hS I h1 r1
      obtain ⟨bs, q2, n2⟩ := DqA.reads hS I h2 r2
      refine ⟨_, ReadsAll.cons q1 q2, ?_⟩
      intro hm
      rcases List.mem_append.mp hm with z | z
      · exact n1 z
      · exact n2 z
end
end
/-- repr(x), x a list, tuple or dict of data -/
def rRepr (K : PySem.W.Frag) : List V → Hp → VK → Prop := fun xs H Q => ∃ (a : Addr) (d : PyData), xs = [.ref a] ∧ Dq K H (.ref a) d ∧ d.showable = true ∧ d.shown.length ≤ sizeLine ∧ d.depth ≤ 60 ∧ Q (.str d.shown) H
theorem call_reprD {X : Cx} {k : Nat} (hS : SysD X.K) (hG : X.A.guards = some []) (hR : Room k X.A) : CallR X (.builtin "repr") (rRepr X.K) := by
  intro pins s σ H xs us Q I r h
  obtain ⟨a, d, rfl, hq, h1, h2, h3, q⟩ := h
  cases r with
  | cons r1 r2 =>
    cases r2
    obtain ⟨as, hr, hn⟩ := hq.reads hS I r1
    cases r1
    have hu := hR.units
    refine repr_of_reads' hr h1 (fun _ => hn) hG (by omega) (fun _ _ z => z) (fun h' u tk kk => ?_) h2
    exact ⟨.str d.shown, H, I.kept (t' := tk) kk, ⟨u, rfl⟩, q⟩
/-! == of things that are the same, item by item -/
def EqS (K : PySem.W.Frag) (H : Hp) : Nat → V → V → Prop
  | 0 => fun x y => (x = y ∧ flatB x = true) ∨ ∃ a, x = .ref a ∧ y = .ref a
  | n + 1 => fun x y => ((x = y ∧ flatB x = true) ∨ ∃ a, x = .ref a ∧ y = .ref a) ∨
      ∃ a b xs ys, x = .ref a ∧ y = .ref b ∧ a ≠ b ∧ ((SqL K H a xs ∧ SqL K H b ys) ∨ (SqT K H a xs ∧ SqT K H b ys)) ∧ Paired (EqS K H n) xs ys
section
variable {X : Cx} {pins : List (Addr × Obj)} {σ : L2.St} {H : Hp} {s : Shared}
theorem eqS_flat {A : Around} {x y : V} {v u : Value} (h : (x = y ∧ flatB x = true) ∨ ∃ a, x = .ref a ∧ y = .ref a) (rx : RelV x v) (ry : RelV y u) : SeqAt.EqAt A s v u true := by
  rcases h with ⟨rfl, hf⟩ | ⟨a, rfl, rfl⟩
  · exact eqAt_same rx ry hf
  · cases rx
    cases ry
    exact SeqAt.EqAt.same _
theorem eqS_items {n : Nat} {A : Around} (ih : ∀ x y v u, EqS X.K H n x y → RelV x v → RelV y u → SeqAt.EqAt A s v u true) {xs ys : List V} (hp : Paired (EqS X.K H n) xs ys) :
    ∀ {us ws : List Value}, Vals xs us → Vals ys ws → ∀ j (h1 : j < us.length) (h2 : j < ws.length), SeqAt.EqAt A s us[j] ws[j] true := by
  induction hp with
  | nil =>
    intro us ws r1 _ j h1
    cases r1
    exact absurd h1 (Nat.not_lt_zero j)
  | cons h _ k =>
    intro us ws r1 r2 j h1 h2
    cases r1 with
    | cons a1 b1 =>
      cases r2 with
      | cons a2 b2 =>
        match j with
        | 0 => exact ih _ _ _ _ h a1 a2
        | j + 1 => exact k b1 b2 j (Nat.lt_of_succ_lt_succ h1) (Nat.lt_of_succ_lt_succ h2)
theorem all_tt (n : Nat) : ((List.range n).all fun _ => true) = true := List.all_eq_true.mpr fun _ _ => rfl
theorem eqS_rc (I : Inv X pins σ H s) {n : Nat} {A : Around} (hu : A.units < cLine) (ih : ∀ x y v u, EqS X.K H n x y → RelV x v → RelV y u → SeqAt.EqAt A.in1 s v u true)
    {a b : Addr} {xs ys : List V} (hs : (SqL X.K H a xs ∧ SqL X.K H b ys) ∨ (SqT X.K H a xs ∧ SqT X.K H b ys)) (hp : Paired (EqS X.K H n) xs ys) : SeqAt.RcAt A s (.ref a) (.ref b) true := by
  rcases hs with ⟨h1, h2⟩ | ⟨h1, h2⟩
  · obtain ⟨us, r1, p1, _⟩ := I.list h1
    obtain ⟨ws, r2, p2, _⟩ := I.list h2
    have hz : us.toArray.size = ws.toArray.size := by
      have e1 := r1.length
      have e2 := r2.length
      have e3 := Paired.length hp
      simp only [List.size_toArray]
      omega
    have q := SeqAt.RcAt.lists (A := A) (s := s) (e := fun _ => true) p1.isList p2.isList hz hu fun j h1 h2 => by
      simpa using eqS_items ih hp r1 r2 j (by simpa using h1) (by simpa using h2)
    rw [all_tt] at q
    exact q
  · obtain ⟨us, r1, ⟨o1, g1, c1, n1, d1⟩, _⟩ := I.tuple h1
    obtain ⟨ws, r2, ⟨o2, g2, c2, n2, d2⟩, _⟩ := I.tuple h2
    have hz : us.toArray.size = ws.toArray.size := by
      have e1 := r1.length
      have e2 := r2.length
      have e3 := Paired.length hp
      simp only [List.size_toArray]
      omega
    have q := SeqAt.RcAt.tuples (A := A) (s := s) (e := fun _ => true) (items := us.toArray) (items2 := ws.toArray) ⟨o1, g1, c1, n1, d1⟩ ⟨o2, g2, c2, n2, d2⟩ hu fun j h1 h2 => by
      simpa using eqS_items ih hp r1 r2 j (by simpa using h1) (by simpa using h2)
    rw [all_tt, hz] at q
    simpa using q
theorem eqS_at (I : Inv X pins σ H s) : ∀ (n : Nat) (A : Around), A.units + n < cLine → ∀ x y v u, EqS X.K H n x y → RelV x v → RelV y u → SeqAt.EqAt A s v u true
  | 0, _, _, _, _, _, _, h, rx, ry => eqS_flat h rx ry
  | n + 1, A, hu, x, y, v, u, h, rx, ry => by
    rcases h with h | ⟨a, b, xs, ys, rfl, rfl, ne, hs, hp⟩
    · exact eqS_flat h rx ry
    · cases rx
      cases ry
      exact SeqAt.EqAt.of_refs ne (eqS_rc I (by omega) (eqS_at I n A.in1 (by show A.units + 1 + n < cLine; omega)) hs hp)
end
/-- x == y, two lists or two tuples of the same things -/
def rEqS (K : PySem.W.Frag) : R2 := fun x y H Q => ∃ a b xs ys n, x = .ref a ∧ y = .ref b ∧ n ≤ 40 ∧ ((SqL K H a xs ∧ SqL K H b ys) ∨ (SqT K H a xs ∧ SqT K H b ys)) ∧ Paired (EqS K H n) xs ys ∧ Q (.bl true) H
theorem op_eqS {X : Cx} {k : Nat} (hR : Room k X.A) : OpR X (compareOp .Eq) (rEqS X.K) := by
  intro pins s σ H x y v u Q I rx ry h
  obtain ⟨a, b, xs, ys, n, rfl, rfl, hn, hs, hp, q⟩ := h
  cases rx
  cases ry
  have hu := hR.units
  exact eqS_rc I (A := X.A) (by omega) (eqS_at I n X.A.in1 (by show X.A.units + 1 + n < cLine; omega)) hs hp X.prog X.w _ _ ⟨.bl true, H, I, rfl, q⟩
end Ly

namespace Ly
open PySem PySem.Spec PyProof.Rows L2
/-! the facts of a top: as He.hookD has them, the dict of the modules and one more test -/
def partS (g : Addr → Option Obj) (n : Nat) : PySem.W.Frag := He.frG g (sysModules :: He.asD g n)
def sysB (K : PySem.W.Frag) : Bool := match K.lookup sysModules with
  | some o => decide (o.cls = .type "dict")
  | none => false
theorem sysB_ok {K : PySem.W.Frag} (h : sysB K = true) : SysD K := by
  unfold sysB at h
  match e : K.lookup sysModules with
  | some o =>
    rw [e] at h
    exact ⟨o, e, of_decide_eq_true h⟩
  | none =>
    rw [e] at h
    cases h
abbrev AlS : Type := He.AlD × Bool
def seenS (n : Nat) (fa : List He.Fa) (fn : List He.DefD) (ex : PySem.W.Frag → Bool) (g : Addr → Option Obj) : AlS :=
  (He.obsD fa fn (partS g n), sysB (partS g n) && ex (partS g n))
structure SaysS (fa : List He.Fa) (fn : List He.DefD) (ex : PySem.W.Frag → Bool) (K : PySem.W.Frag) : Prop where
  d : He.SaysD fa fn K
  sys : SysD K
  more : ex K = true
def hookS (n : Nat) (fa : List He.Fa) (fn : List He.DefD) (ex : PySem.W.Frag → Bool) : PySem.W.Hook where
  α := AlS
  obs := fun s => seenS n fa fn ex s.heap.get?
  val := fun _ => (He.valD fn, true)
  says := fun _ h => ∃ K : PySem.W.Frag, K.In h ∧ SaysS fa fn ex K
  of := fun _ s e => by
    have e1 : He.obsD fa fn (partS s.heap.get? n) = He.valD fn := congrArg (fun z : AlS => z.1) e
    have e2 : (sysB (partS s.heap.get? n) && ex (partS s.heap.get? n)) = true := congrArg (fun z : AlS => z.2) e
    obtain ⟨e3, e4⟩ := Bool.and_eq_true_iff.mp e2
    exact ⟨_, He.frG_in, e1, sysB_ok e3, e4⟩
  keeps := fun _ _ _ ⟨K, hK, c⟩ k => ⟨K, PySem.W.Frag.In.keeps hK k, c⟩
theorem seenS_eq {n : Nat} {fa : List He.Fa} {fn : List He.DefD} {ex : PySem.W.Frag → Bool} {g : Addr → Option Obj} {s : Shared} (h : ∀ a, g a = s.heap.get? a) :
    seenS n fa fn ex g = (hookS n fa fn ex).obs s := by
  have e : g = s.heap.get? := funext h
  rw [e] <;> rfl
/-! own exception classes with an __init__ -/
def oexB (K : PySem.W.Frag) (C : Addr) : Bool := match K.lookup C with
  | some ⟨.type "type", _, .cls cd, sl⟩ => (match cd.mro, sl.toList with
    | .ref D :: bm, [_, _, _, _, some (.builtin n), _] => D == C && n == "ValueError.__new__" && !cd.hasDel && cd.hasDict && PySem.HandSPX.refsVE bm
    | _, _ => false)
  | _ => false
theorem oexB_ok {K : PySem.W.Frag} {C : Addr} (q : oexB K C = true) :
    ∃ nm qn N bs bm sn sub ab col dd k0 k1 k2 k3 k5, K.lookup C = some (excClassObj nm qn C N bs bm true sn sub ab col dd k0 k1 k2 k3 k5 "ValueError.__new__") ∧ PySem.HandSPX.refsVE bm = true := by
  unfold oexB at q
  split at q
  · rename_i dd cd sl ho
    split at q
    · rename_i D bm k0 k1 k2 k3 n k5 hm hs
      simp only [Bool.and_eq_true, beq_iff_eq, Bool.not_eq_true'] at q
      obtain ⟨⟨⟨⟨rfl, rfl⟩, h1⟩, h2⟩, h3⟩ := q
      obtain ⟨nm, bs, mro, ns, qn, hd, sn, sub, ab, col, del⟩ := cd
      dsimp only at hm h1 h2
      subst hm h1 h2
      have e : sl = #[k0, k1, k2, k3, some (.builtin "ValueError.__new__"), k5] := by
        obtain ⟨l⟩ := sl
        simp only at hs
        rw [hs]
      subst e
      exact ⟨nm, qn, ns, bs, bm, sn, sub, ab, col, dd, k0, k1, k2, k3, k5, ho, h3⟩
    · cases q
  · cases q
/-- all that is asked of such a class x -/
def excB (K : PySem.W.Frag) (C f : Addr) : Bool :=
  oexB K C && (decide (PySem.W.findIn K (.ref C) "__setattr__" = some (some (.builtin "object.__setattr__"))) &&
  (decide (PySem.W.findIn K (.ref C) "__getattribute__" = some (some (.builtin "BaseException.__getattribute__"))) &&
  (decide (PySem.W.findIn K (.ref C) "__getattr__" = some none) && (decide (PySem.W.findIn K (.ref C) "__init__" = some (some (.ref f))) &&
  (decide (PySem.W.subIn K (.ref C) (.type "BaseException") = some true) && (decide (PySem.W.typeIn K (.ref C) = some (.type "type")) &&
  (PySem.W.keepIn K (.ref C) && (PySem.W.hasDictIn K C && (decide (PySem.W.typeIn K (.ref f) = some (.type "function")) &&
  (decide (PySem.W.findIn K (.ref C) "__class__" = some (some (.builtin "object.__class__"))) && decide (PySem.W.mroIn K C (.type "object") = some true)))))))))))
structure ExcT (K : PySem.W.Frag) (C f : Addr) : Prop where
  oex : OexC K C
  xf : XfC K C
  init : PySem.W.findIn K (.ref C) "__init__" = some (some (.ref f))
  tI : PySem.W.typeIn K (.ref f) = some (.type "function")
  cl : PySem.W.findIn K (.ref C) "__class__" = some (some (.builtin "object.__class__"))
  mro : PySem.W.mroIn K C (.type "object") = some true
theorem excB_ok {K : PySem.W.Frag} {C f : Addr} (h : excB K C f = true) : ExcT K C f := by
  unfold excB at h
  simp only [Bool.and_eq_true, decide_eq_true_eq] at h
  obtain ⟨h1, h2, h3, h4, h5, h6, h7, h8, h9, h10, h11, h12⟩ := h
  exact ⟨⟨oexB_ok h1, h2, h6, h7, h8⟩, ⟨h3, h4, h6, h9⟩, h5, h10, h11, h12⟩
end Ly

namespace Ly
open PySem PySem.Spec PyProof.Rows L2
/-- the bag of a script at b -/
structure BagAt (H : Hp) (b q : Addr) (x0 x1 x2 : Int) (ms : List Int) : Prop where
  top : H b = some (.lst [.int x0, .int x1, .int x2, .ref q])
  cells : H q = some (.lst (ms.map V.int))
  n0 : 0 ≤ x0
  n1 : 0 ≤ x1
  n2 : 0 ≤ x2
  few : ms.length ≤ 1000
def IsBag (H : Hp) (b : Addr) : Prop := ∃ q x0 x1 x2 ms, BagAt H b q x0 x1 x2 ms
theorem BagAt.ne {H : Hp} {b q : Addr} {x0 x1 x2 : Int} {ms : List Int} (h : BagAt H b q x0 x1 x2 ms) : q ≠ b := by
  rintro rfl
  have e := h.top.symm.trans h.cells
  have e := Option.some.inj e
  have e : [V.int x0, V.int x1, V.int x2, V.ref q] = ms.map V.int := HO.lst.inj e
  have m : V.ref q ∈ ms.map V.int := by
    rw [← e]
    simp
  obtain ⟨z, _, hz⟩ := List.mem_map.mp m
  cases hz
/-- all but b stands as it did -/
def Kp (b : Addr) (H H' : Hp) : Prop := ∀ a o, a ≠ b → H a = some o → H' a = some o
theorem Kp.refl (b : Addr) (H : Hp) : Kp b H H := fun _ _ _ h => h
theorem Kp.trans {b : Addr} {H H1 H2 : Hp} (h : Kp b H H1) (h' : Kp b H1 H2) : Kp b H H2 := fun a o n e => h' a o n (h a o n e)
theorem Kp.new {b p : Addr} {H : Hp} {o : HO} (h : H p = none) : Kp b H (upd H p o) := fun a x _ e => by
  rw [upd_ne (ne_of_none e h)]
  exact e
theorem Kp.set {b : Addr} {H : Hp} {o : HO} : Kp b H (upd H b o) := fun a x n e => by
  rw [upd_ne n]
  exact e
theorem Same.kp {b : Addr} {H H' : Hp} (h : Same H H') : Kp b H H' := fun a o _ e => h a o e
theorem Kp.seqT {K : PySem.W.Frag} {b a : Addr} {H H' : Hp} {xs : List V} (h : Kp b H H') (ht : SqT K H a xs) (hb : ∀ ys, H b ≠ some (.tup ys)) (hb2 : ∀ o ys, H b ≠ some (.frz o (.tup ys))) : SqT K H' a xs := by
  rcases ht with (e | ⟨o, e⟩) | e
  · refine .inl (.inl (h a _ ?_ e))
    rintro rfl
    exact hb _ e
  · refine .inl (.inr ⟨o, h a _ ?_ e⟩)
    rintro rfl
    exact hb2 _ _ e
  · exact .inr e
theorem BagAt.new {H : Hp} {b q p : Addr} {x0 x1 x2 : Int} {ms : List Int} {o : HO} (h : BagAt H b q x0 x1 x2 ms) (hp : H p = none) : BagAt (upd H p o) b q x0 x1 x2 ms :=
  ⟨by rw [upd_ne (ne_of_none h.top hp)]; exact h.top, by rw [upd_ne (ne_of_none h.cells hp)]; exact h.cells, h.n0, h.n1, h.n2, h.few⟩
theorem BagAt.set {H : Hp} {b q : Addr} {x0 x1 x2 y0 y1 y2 : Int} {ms : List Int} (h : BagAt H b q x0 x1 x2 ms) (n0 : 0 ≤ y0) (n1 : 0 ≤ y1) (n2 : 0 ≤ y2) :
    BagAt (upd H b (.lst [.int y0, .int y1, .int y2, .ref q])) b q y0 y1 y2 ms :=
  ⟨upd_same, by rw [upd_ne h.ne]; exact h.cells, n0, n1, n2, h.few⟩
theorem BagAt.same {H H' : Hp} {b q : Addr} {x0 x1 x2 : Int} {ms : List Int} (h : BagAt H b q x0 x1 x2 ms) (s : Same H H') : BagAt H' b q x0 x1 x2 ms :=
  ⟨s _ _ h.top, s _ _ h.cells, h.n0, h.n1, h.n2, h.few⟩
theorem IsBag.same {H H' : Hp} {b : Addr} (h : IsBag H b) (s : Same H H') : IsBag H' b := by
  obtain ⟨q, x0, x1, x2, ms, h⟩ := h
  exact ⟨q, x0, x1, x2, ms, h.same s⟩
theorem IsBag.new {H : Hp} {b p : Addr} {o : HO} (h : IsBag H b) (hp : H p = none) : IsBag (upd H p o) b := by
  obtain ⟨q, x0, x1, x2, ms, h⟩ := h
  exact ⟨q, x0, x1, x2, ms, h.new hp⟩
theorem IsBag.top {H : Hp} {b : Addr} (h : IsBag H b) : ∃ xs, H b = some (.lst xs) := by
  obtain ⟨q, x0, x1, x2, ms, h⟩ := h
  exact ⟨_, h.top⟩
/-- the suite of an if, a for -/
def suiteOf : Stmt → List Stmt
  | .If _ b _ _ => b
  | .For _ _ b _ _ => b
  | _ => []
def nthS (l : List Stmt) (i : Nat) : Stmt := l.getD i (.Pass ⟨0, 0, 0, 0⟩)
theorem cut_ints (ms : List Int) (lo hi : Option Int) : ∃ zs : List Int, cutV (ms.map V.int) lo hi = zs.map V.int ∧ zs.length ≤ ms.length := by
  refine ⟨(ms.drop (HT.sIx (ms.map V.int).length 0 lo)).take (HT.sIx (ms.map V.int).length (ms.map V.int).length hi - HT.sIx (ms.map V.int).length 0 lo), ?_, ?_⟩
  · unfold cutV
    rw [List.map_take, List.map_drop]
  · rw [List.length_take, List.length_drop]
    omega
theorem few_line {n : Nat} (h : n ≤ 100000) : n ≤ sizeLine := by
  rw [sizeLine_eq]
  omega
/-- o[i] of a list, for o[i] op= e -/
def rGetL (K : PySem.W.Frag) : V → V → Hp → VK → Prop := fun o i H Q => ∃ (p : Addr) (xs : List V) (k : Nat) (v : V), o = .ref p ∧ i = .int k ∧ SqL K H p xs ∧ xs[k]? = some v ∧ Q v H
theorem get_list {X : Cx} : PGet X (rGetL X.K) := by
  intro pins s σ H o i ov iv Q I ro ri h
  obtain ⟨p, xs, k, v, rfl, rfl, hq, hv, q⟩ := h
  cases ro
  obtain ⟨t, rfl⟩ := ri
  obtain ⟨its, r, pl, hz⟩ := I.list hq
  obtain ⟨u, hu, ru⟩ := r.get hv
  have hl := r.length
  have hk : k < xs.length := (List.getElem?_eq_some_iff.mp hv).1
  have hn : sizeLine < 2 ^ 63 := by rw [sizeLine_eq]; decide
  refine wpAny_getItem_list pl.isList (Int.natCast_nonneg k) ?_ (x := u) ?_ ⟨v, H, I, ru, q⟩
  · have : k < 2 ^ 63 := by omega
    exact_mod_cast this
  · simpa using hu
end Ly

namespace Ly
open PySem PySem.Spec PyProof.Rows L2
theorem Same.seqT {K : PySem.W.Frag} {H H' : Hp} {a : Addr} {xs : List V} (e : Same H H') (h : SqT K H a xs) : SqT K H' a xs := by
  rcases h with (h | ⟨o, h⟩) | h
  · exact .inl (.inl (e _ _ h))
  · exact .inl (.inr ⟨o, e _ _ h⟩)
  · exact .inr h
mutual
theorem Dq.mono {K : PySem.W.Frag} {H H' : Hp} (e : Same H H') : ∀ {v : V} {d : PyData}, Dq K H v d → Dq K H' v d
  | _, _, .non => .non
  | _, _, .bl b => .bl b
  | _, _, .int i => .int i
  | _, _, .str x => .str x
  | _, _, .lst hs ha => .lst (e.seq hs) (DqA.mono e ha)
  | _, _, .tup hs ha => .tup (Same.seqT e hs) (DqA.mono e ha)
  | _, _, .dic hs ha => .dic (e _ _ hs) (DqA.mono e ha)
theorem DqA.mono {K : PySem.W.Frag} {H H' : Hp} (e : Same H H') : ∀ {vs : List V} {ds : List PyData}, DqA K H vs ds → DqA K H' vs ds
  | _, _, .nil => .nil
  | _, _, .cons h1 h2 => .cons (Dq.mono e h1) (DqA.mono e h2)
end
theorem DqA.mem {K : PySem.W.Frag} {H : Hp} : ∀ {vs : List V} {ds : List PyData}, DqA K H vs ds → ∀ {v : V}, v ∈ vs → ∃ d ∈ ds, Dq K H v d
  | _, _, .nil, _, h => nomatch h
  | _, _, .cons h1 h2, v, h => by
    rcases List.mem_cons.mp h with e | h
    · subst e
      exact ⟨_, List.mem_cons_self, h1⟩
    · obtain ⟨d, hd, q⟩ := DqA.mem h2 h
      exact ⟨d, List.mem_cons_of_mem _ hd, q⟩
theorem DqA.append {K : PySem.W.Frag} {H : Hp} : ∀ {vs ws : List V} {ds es : List PyData}, DqA K H vs ds → DqA K H ws es → DqA K H (vs ++ ws) (ds ++ es)
  | _, _, _, _, .nil, h => h
  | _, _, _, _, .cons h1 h2, h => .cons h1 (DqA.append h2 h)
/-- what stands outside S -/
def hid (S : Addr → Bool) (H : Hp) : Hp := fun a => if S a = true then none else H a
theorem hid_at {S : Addr → Bool} {H : Hp} {a : Addr} (h : S a = false) : hid S H a = H a := by
  unfold hid
  rw [if_neg (by rw [h]; simp)]
theorem of_hid {S : Addr → Bool} {H : Hp} {a : Addr} {o : HO} (h : hid S H a = some o) : S a = false ∧ H a = some o := by
  unfold hid at h
  by_cases z : S a = true
  · rw [if_pos z] at h
    cases h
  · rw [if_neg z] at h
    exact ⟨by simpa using z, h⟩
theorem hid_same {S T : Addr → Bool} {H H' : Hp} (i : ∀ a, S a = false → T a = false) (h : ∀ a o, S a = false → H a = some o → H' a = some o) : Same (hid S H) (hid T H') := fun a o e => by
  obtain ⟨z, e⟩ := of_hid e
  rw [hid_at (i a z)]
  exact h a o z e
def offB (b : Addr) : Addr → Bool := fun a => decide (a = b)
theorem offB_ne {a b : Addr} (h : offB b a = false) : a ≠ b := of_decide_eq_false h
theorem offB_of {a b : Addr} (h : a ≠ b) : offB b a = false := decide_eq_false h
theorem del_same_of {b : Addr} {H H' : Hp} (h : Kp b H H') : Same (hid (offB b) H) (hid (offB b) H') := hid_same (fun _ z => z) fun a o z e => h a o (offB_ne z) e
theorem hid_sub {S : Addr → Bool} {H : Hp} : Same (hid S H) H := fun a o e => (of_hid e).2
theorem same_new {p : Addr} {H : Hp} {o : HO} (h : H p = none) : Same H (upd H p o) := fun a x e => by
  rw [upd_ne (ne_of_none e h)]
  exact e
/-- v stands for d, whatever stands at b -/
abbrev DB (K : PySem.W.Frag) (b : Addr) (H : Hp) (v : V) (d : PyData) : Prop := Dq K (hid (offB b) H) v d
abbrev DBA (K : PySem.W.Frag) (b : Addr) (H : Hp) (vs : List V) (ds : List PyData) : Prop := DqA K (hid (offB b) H) vs ds
/-! displays of data: outside of what S takes away -/
def tDat (K : PySem.W.Frag) (d : PyData) : TE := fun _ H Q => ∃ S : Addr → Bool, (∀ a, S a = true → H a ≠ none) ∧ ∀ v H', Same H H' → Dq K (hid S H') v d → Q v H'
def tDats (K : PySem.W.Frag) (ds : List PyData) : TA := fun _ H Q => ∃ S : Addr → Bool, (∀ a, S a = true → H a ≠ none) ∧ ∀ vs H', Same H H' → DqA K (hid S H') vs ds → Q vs H'
theorem pe_weak {X : Cx} {e : Expr} {t t' : TE} (h : PE X e t) (i : ∀ σ H Q, t' σ H Q → t σ H Q) : PE X e t' := ⟨fun pins s σ H Q I q => h.run pins s σ H Q I (i σ H Q q)⟩
theorem pa_weak {X : Cx} {es : List Expr} {t t' : TA} (h : PA X es t) (i : ∀ σ H Q, t' σ H Q → t σ H Q) : PA X es t' := ⟨fun pos pins s σ H Q I q => h.run pos pins s σ H Q I (i σ H Q q)⟩
section
variable {X : Cx} {K : PySem.W.Frag} {pos : Pos}
theorem pd_non {j} : PE X (.Constant .none j pos) (tDat K .none) := pe_weak pe_non fun _ H _ ⟨_, _, h⟩ => h _ H (Same.refl H) .non
theorem pd_bl {j} {c : Bool} : PE X (.Constant (.bool c) j pos) (tDat K (.bool c)) := pe_weak pe_bl fun _ H _ ⟨_, _, h⟩ => h _ H (Same.refl H) (.bl c)
theorem pd_int {i : Int} {j} : PE X (.Constant (.int i) j pos) (tDat K (.int i)) := pe_weak pe_int fun _ H _ ⟨_, _, h⟩ => h _ H (Same.refl H) (.int i)
theorem pd_str {x : Str} {j} : PE X (.Constant (.str x) j pos) (tDat K (.str x)) := pe_weak pe_str fun _ H _ ⟨_, _, h⟩ => h _ H (Same.refl H) (.str x)
theorem pd_nil : PA X [] (tDats K []) := pa_weak pa_nil fun _ H _ ⟨_, _, h⟩ => h _ H (Same.refl H) .nil
theorem some_of {b : Addr} {H H' : Hp} (h : H b ≠ none) (s : Same H H') : H' b ≠ none := by
  cases e : H b with
  | none => exact absurd e h
  | some o =>
    rw [s _ _ e]
    exact fun z => nomatch z
theorem hid_mono {S : Addr → Bool} {H H' : Hp} (s : Same H H') : Same (hid S H) (hid S H') := hid_same (fun _ z => z) fun a o _ e => s a o e
theorem out_of {S : Addr → Bool} {H : Hp} {p : Addr} (h : ∀ a, S a = true → H a ≠ none) (hp : H p = none) : S p = false := by
  cases z : S p with
  | false => rfl
  | true => exact absurd hp (h p z)
theorem pd_cons {e : Expr} {es : List Expr} {d : PyData} {ds : List PyData} (he : PE X e (tDat K d)) (hr : PA X es (tDats K ds))
    (hs : starEach (e :: es) X.env = (false, eval e X.env) :: starEach es X.env := by rfl) : PA X (e :: es) (tDats K (d :: ds)) :=
  pa_weak (pa_cons he hr hs) fun _ H _ ⟨S, h1, h2⟩ => ⟨S, h1, fun v H1 s1 d1 => ⟨S, fun a z => some_of (h1 a z) s1, fun vs H2 s2 d2 => h2 _ H2 (s1.trans s2) (.cons (d1.mono (hid_mono s2)) d2)⟩⟩
theorem pd_tup {es : List Expr} {x1} {ds : List PyData} (h : PA X es (tDats K ds)) (hl : ds.length ≤ 1000 := by simp) : PE X (.Tuple es x1 pos) (tDat K (.tuple ds)) :=
  pe_weak (pe_tup h) fun _ H _ ⟨S, q1, q2⟩ => ⟨S, q1, fun vs H1 s1 d1 => ⟨few_line (by have := d1.length; omega), fun p hp => q2 _ _ (s1.trans (same_new hp))
    (.tup (.inl (.inl (by rw [hid_at (out_of (fun a z => some_of (q1 a z) s1) hp), upd_same]))) (d1.mono (hid_mono (same_new hp))))⟩⟩
theorem pd_lst {es : List Expr} {ds : List PyData} (h : PA X es (tDats K ds)) (hl : ds.length ≤ 1000 := by simp) : PE X (.List es pos) (tDat K (.list ds)) :=
  pe_weak (pe_lst h) fun _ H _ ⟨S, q1, q2⟩ => ⟨S, q1, fun vs H1 s1 d1 => ⟨few_line (by have := d1.length; omega), fun p hp => q2 _ _ (s1.trans (same_new hp))
    (.lst (.inl (.inl (by rw [hid_at (out_of (fun a z => some_of (q1 a z) s1) hp), upd_same]))) (d1.mono (hid_mono (same_new hp))))⟩⟩
theorem pd_dnil : PE X (.Dict [] [] pos) (tDat K (.dict [])) :=
  pe_weak pe_dnewK fun _ H _ ⟨S, q1, q2⟩ p hp => q2 _ _ (same_new hp) (.dic (kvs := []) (ds := []) (by rw [hid_at (out_of q1 hp), upd_same]) .nil)
theorem pd_done {x : Str} {j} {p1 : Pos} {e : Expr} {d : PyData} (h : PE X e (tDat K d)) : PE X (.Dict [some (.Constant (.str x) j p1)] [e] pos) (tDat K (.dict [(.str x, d)])) := by
  refine pe_weak (pe_disp (pps_cons pe_str h pps_nil) rfl rfl (by simp) (by simp)) fun σ H Q ⟨S, q1, q2⟩ p hp => ?_
  have sp : S p = false := out_of q1 hp
  -- the new dict itself is taken away while its value is made
  refine ⟨fun a => S a || decide (a = p), fun a z => ?_, fun v H1 s1 d1 => ⟨s1 _ _ upd_same, [(.inr x, v)], rfl, by simp, ?_⟩⟩
  · by_cases e : a = p
    · subst e
      rw [upd_same]
      exact fun z => nomatch z
    · rw [upd_ne e]
      exact q1 a (by simpa [e] using z)
  have k : Same H (upd H1 p (.dK [(.inr x, v)])) := fun a o e => by
    rw [upd_ne (ne_of_none e hp)]
    exact s1 _ _ (by rw [upd_ne (ne_of_none e hp)]; exact e)
  refine q2 _ _ k (.dic (kvs := [(.inr x, v)]) (ds := [d]) (by rw [hid_at sp, upd_same]; rfl) (.cons (d1.mono (hid_same (fun a z => ?_) fun a o z e => ?_)) .nil))
  · simp only [Bool.or_eq_false_iff] at z
    exact z.1
  · simp only [Bool.or_eq_false_iff, decide_eq_false_iff_not] at z
    show upd H1 p _ a = some o
    rw [upd_ne z.2]
    exact e
theorem pd_neg {i : Int} {j} {p1 : Pos} : PE X (.UnaryOp .USub (.Constant (.int i) j p1) pos) (tDat K (.int (-i))) :=
  pe_weak (pe_un un_neg pe_int) fun _ H _ ⟨_, _, h⟩ => ⟨i, rfl, h _ H (Same.refl H) (.int _)⟩
theorem pd_pow {i n : Int} {j l} {p1 p2 : Pos} (h1 : CPow i n := by exact ⟨by decide, by decide, by decide⟩) : PE X (.BinOp (.Constant (.int i) j p1) .Pow (.Constant (.int n) l p2) pos) (tDat K (.int (i ^ n.toNat))) :=
  pe_weak (pe_op op_pow pe_int pe_int) fun _ H _ ⟨_, _, h⟩ => ⟨i, n, rfl, rfl, h1, h _ H (Same.refl H) (.int _)⟩
end
end Ly

namespace Ly
open PySem PySem.Spec PyProof.Rows L2
section
variable {X : Cx} {pins : List (Addr × Obj)} {σ : L2.St} {H1 H2 : Hp} {hp hp2 h2 : Heap} {g1 g2 : Array GenState} {d1 d2 : Drawn} {t1 t2 : Nat} {os1 os2 : OsState} {a C : Addr}
/-- a made exception without fields is let go -/
theorem bare_end (I1 : Inv X pins σ H1 ⟨hp, g1, d1, t1, os1⟩) (ha : hp.objs.size ≤ a) (k : ∀ b o, hp.get? b = some o → hp2.get? b = some o)
    (un : Un (frs X.stack) [] (upd H1 a (exo a C none)) H2 hp2 h2) (hok : HOk X.prog X.w H2 h2) (ho : os2 = os1) (hb : AllBare g2) (ea : H2 a = some (exo a C none)) :
    ∃ (t0 : Addr) (G : Heap), Inv X pins σ (L2.del H2 a) ⟨G, g2, d2, t2, os2⟩ ∧ (∀ b o, G.get? b = some o → h2.get? b = some o) ∧ G.get? a = none ∧
      h2.get? a = some ({ cls := .ref C, dict := none, data := .fields #[.ref t0, .none, .none, .none, .bool false, .none] } : Obj) := by
  obtain ⟨t0, oa⟩ := exo_at hok ea
  have n1 : H1 a = none := I1.hok.fresh ha
  obtain ⟨G, ge, gn⟩ := restrict h2 fun b => decide (b ≠ a)
  have same : ∀ b, b ≠ a → G.get? b = h2.get? b := fun b n => ge b (decide_eq_true n)
  have gone : G.get? a = none := gn a (by simp)
  have away : ∀ {b : Addr} {o : Obj}, hp.get? b = some o → b ≠ a := by
    intro b o z
    exact Nat.ne_of_lt (Nat.lt_of_lt_of_le (Heap.lt_size z) ha)
  have lift : ∀ {b : Addr}, b ≠ a → H1 b = none → upd H1 a (exo a C none) b = none := by
    intro b n z
    rw [upd_ne n]
    exact z
  have U : Un (frs X.stack) [] H1 (L2.del H2 a) hp G := by
    constructor
    · intro b o z n hf hx
      rw [same b (away z)]
      exact un.keep b o (k b o z) (lift (away z) n) hf hx
    · intro b o z n hf hx
      rw [same b (away z)]
      exact un.slot b o (k b o z) (lift (away z) n) hf hx
    · intro b o z n hx
      rw [L2.del_ne (away z)]
      exact un.free b o (k b o z) (lift (away z) n) hx
    · intro b o z hx
      rw [same b (away z)]
      exact un.there b o (k b o z) hx
    · intro b xs z
      have nb := ne_of_none z n1
      rw [L2.del_ne nb]
      exact un.tups b xs (by rw [upd_ne nb]; exact z)
    · intro b o v z
      have nb := ne_of_none z n1
      rw [L2.del_ne nb]
      exact un.frzs b o v (by rw [upd_ne nb]; exact z)
    · intro b ps z
      have nb := ne_of_none z n1
      rw [L2.del_ne nb]
      exact un.tbls b ps (by rw [upd_ne nb]; exact z)
  have ok3 : HOk X.prog X.w (L2.del H2 a) G := by
    intro b o z
    have nb : b ≠ a := by
      rintro rfl
      rw [L2.del_same] at z
      cases z
    rw [L2.del_ne nb] at z
    refine (hok b o z).stay (fun c v hc y => ?_) (fun c hc => ?_) (fun c xs hc => ?_)
    · have nc : c ≠ a := by
        rcases hc with hc | hc
        · rw [hc]
          exact nb
        · exact at_ne ea hc exo_own
      rw [same c nc]
      exact y
    · rw [L2.del_ne (at_ne ea hc exo_own)]
      exact hc
    · rw [L2.del_ne (at_ne ea hc exo_tup)]
      exact hc
  refine ⟨t0, G, I1.call' (ch := []) ho U ok3 hb (fun b z => absurd z (by simp)), fun b o z => ?_, gone, oa⟩
  by_cases e : b = a
  · rw [e, gone] at z
    cases z
  · rw [← same b e]
    exact z
end
/-- C(), C's own __init__ keeping sp and storing nothing -/
def tMkB (C : Addr) (sp : Sp) : L2.St → Hp → XK → Prop := fun σ H Q => ∀ a, H a = none → sp [.ref a] (upd H a (exo a C none)) (fun v H2 => v = .non ∧ H2 a = some (exo a C none) ∧ Q (.ref C) none (L2.del H2 a)) (fun _ _ _ => False)
theorem pmk_bare {X : Cx} {CX : CXT} {x : Str} {C fI : Addr} {k : Nat} {fd : FuncData} {ps : List Str} {sp : Sp} {p pos : Pos} (T : ExcT X.K C fI)
    (FI : FnOk X.prog X.w X.K X.mg X.base CX k fI fd ps sp) (hr : Room (k + 1) X.A) (hb : Binds X.K fd ps []) (hx : Passes CX X (fun _ _ _ => False)) (hg : Gl X x) (hm : X.mg x = some (.ref C))
    (hdb : (x == ("__debug__" : Str)) = false := by decide) : PMk X (.Call (.Name x p) [] [] pos) (tMkB C sp) := by
  intro pins s σ H Q I h
  obtain ⟨nm, q, N, bs, bm, sn, sub, ab, col, dd, k0, k1, k2, k3, k5, hC, hbm⟩ := T.oex.cls
  refine wpAny_Call_Name_kw (ld_glob I hg hm ?_ hdb)
  refine PySem.W.callWith_K0 I.kIn T.oex.kC ?_
  obtain ⟨hp, g, dr, tk, os⟩ := s
  have hz : hp.objs.size ≤ hp.objs.size + 1 := Nat.le_succ _
  have hn : H (hp.objs.size + 1) = none := I.hok.fresh hz
  have hq := h (hp.objs.size + 1) hn
  have kk : ∀ b o, hp.get? b = some o → ((hp.push (PySem.W.kdv_tup [])).push (PySem.HandSPX.excO C hp.objs.size)).get? b = some o :=
    fun b o e => Heap.get?_push_of_some _ (Heap.get?_push_of_some _ e)
  have at1 : ((hp.push (PySem.W.kdv_tup [])).push (PySem.HandSPX.excO C hp.objs.size)).get? (hp.objs.size + 1) = some (PySem.HandSPX.excO C hp.objs.size) := by heap_get
  have I2 : Inv X pins σ (upd H (hp.objs.size + 1) (exo (hp.objs.size + 1) C none)) ⟨(hp.push (PySem.W.kdv_tup [])).push (PySem.HandSPX.excO C hp.objs.size), g, dr, tk, os⟩ :=
    I.laid (t' := tk) (o := exo (hp.objs.size + 1) C none) kk hz (exo_ok at1)
  have r2 : Vals [V.ref (hp.objs.size + 1)] [Value.ref (hp.objs.size + 1)] := .cons rfl .nil
  have hl : ([Value.ref (hp.objs.size + 1)] ++ ([] : List Value)).length = ps.length := by
    have e := FI.len _ _ _ _ hq
    simpa using e
  refine wpAny_call (PySem.HandSPX.call_own F.excBase_ValueError (fun Y => PySem.HandSPX.refsVE_contains Y bm hbm) (I.kIn _ _ hC) (PySem.W.looks_findIn I.kIn T.init) (fun self => PySem.W.bind_fn I.kIn self T.tI) (by simp)
    (codeAny_mono (FI.run _ X.stack _ _ ⟨[Value.ref (hp.objs.size + 1)], []⟩ ([Value.ref (hp.objs.size + 1)] ++ []) _ _ (fun _ _ _ => False) (hr.make C [] []) (I2.env0.make C [] []) (hb _ [Value.ref (hp.objs.size + 1)] I2.kIn hl) r2 hq) ?_))
  intro r s' z
  match r, z with
  | .error er, z => exact hx pins σ _ _ er s' I2 z
  | .ok .next, z => exact z.elim
  | .ok .brk, z => exact z.elim
  | .ok .cont, z => exact z.elim
  | .ok (.ret u), z =>
    obtain ⟨v, H2, os2, bare2, un2, hok2, rv, ev, ea, q2⟩ := z
    subst ev
    obtain ⟨h2, g2, d2, t2, os'⟩ := s'
    obtain ⟨t0, G, J, kG, gone, oa⟩ := bare_end (d2 := d2) (t2 := t2) I hz kk un2 hok2 os2 bare2 ea
    exact ⟨rv, _, _, _, ⟨G, g2, d2, t2, os'⟩, _, .ref C, none, rfl, J, kG, gone, oa, ⟨rfl, rfl⟩, rfl, rfl, L2.del_same, rfl, bare2, raises_own T.oex.exC T.oex.tyC, q2⟩
end Ly

namespace Ly
open PySem PySem.Spec PyProof.Rows L2
/-! try with several clauses, each with a name or without -/
abbrev Su := Addr → Value → Option Addr → TS
/-- behind a suite slot i holds nothing -/
def wiped (i : Nat) (D : Ends) : Ends :=
  { nx := fun σ' H' => D.nx (σ'.set i none) H', rt := D.rt, bk := fun σ' H' => D.bk (σ'.set i none) H', ct := fun σ' H' => D.ct (σ'.set i none) H' }
def wTry (K : PySem.W.Frag) (Wout : WX) (D : Ends) : List (Value × Option Nat × Su) → WX
  | [] => Wout
  | (c, none, ts) :: r => fun cls d σ H => ∃ b, PySem.W.exmOne K cls c = some b ∧ (b = true → ∀ a, H a = none → ts a cls d D σ H) ∧ (b = false → wTry K Wout D r cls d σ H)
  | (c, some i, ts) :: r => fun cls d σ H => ∃ b, PySem.W.exmOne K cls c = some b ∧ (b = true → ∀ a, H a = none → ts a cls d (wiped i D) (σ.set i (some (.ref a))) H) ∧
      (b = false → wTry K Wout D r cls d σ H)
/-- the suite's rule -/
def SuOk (X : Cx) (body : List Stmt) (ts : Su) : Prop :=
  ∀ (a : Addr) (oe : Obj) (cls : Value) (d : Option Addr) (pn : List (Addr × Obj)), Zc cls d oe → (∃ vs, oe.data = .fields vs) → PSs (X.suite a ((a, oe) :: pn)) body (ts a cls d)
inductive HdsT (X : Cx) : List ExceptHandler → List (Value × Option Nat × Su) → Prop
  | nil : HdsT X [] []
  | bare {x : Str} {c : Value} {ts : Su} {b₀ : Stmt} {su : List Stmt} {np p' : Pos} {hds : List ExceptHandler} {l : List (Value × Option Nat × Su)}
      (hc : Names X x c) (hs : SuOk X (b₀ :: su) ts) (r : HdsT X hds l) : HdsT X (.ExceptHandler (some (.Name x np)) none (b₀ :: su) p' :: hds) ((c, none, ts) :: l)
  | named {x n : Str} {i : Nat} {c : Value} {ts : Su} {b₀ : Stmt} {su : List Stmt} {np p' : Pos} {hds : List ExceptHandler} {l : List (Value × Option Nat × Su)}
      (hi : X.N[i]? = some n) (hl : X.env.kindOf n = some .local) (hc : Names X x c) (hs : SuOk X (b₀ :: su) ts) (r : HdsT X hds l) :
      HdsT X (.ExceptHandler (some (.Name x np)) (some n) (b₀ :: su) p' :: hds) ((c, some i, ts) :: l)
section
variable {X : Cx} {body : List Stmt} {h₀ : ExceptHandler} {hds : List ExceptHandler} {l : List (Value × Option Nat × Su)} {pos : Pos} {tb : WX → TS} {Wout : WX}
theorem ps_tries (hst : X.stack = X.env :: X.outer) (hfm : X.env.frame = some X.env.locals) (hN : X.N.Nodup) (tk : Takes X Wout)
    (hb : ∀ (W : WX) (pn : List (Addr × Obj)) (xe : Value → Shared → Prop), Takes (X.tr pn xe) W → PassesOwn (model X.prog X.w) X.A X.env xe → PSs (X.tr pn xe) body (tb W))
    (hh : HdsT X (h₀ :: hds) l) : PS X (.Try body (h₀ :: hds) [] [] pos) (fun D σ H => tb (wTry X.K Wout D l) D σ H) := by
  constructor
  intro pins s σ H D I hw
  have ok := I.ok
  have frm : X.A.frames = some (X.env :: X.outer) := ok.frames.trans (congrArg some hst)
  refine wpAny_Try_except (wpAny_mono ((hb (wTry X.K Wout D l) (X.pn ++ pins) (fun e s₁ => wpAny (model X.prog X.w) X.A (noteFrame e X.env) (fun _ s₂ =>
    wpAny (model X.prog X.w) X.A (setFlight e none) (fun _ s₃ => wpAny (model X.prog X.w) X.A (handleBy e X.env (h₀ :: hds)) (SP X pins D) X.xe s₃) X.xe s₂) X.xe s₁)
      (fun u s' z => ?_) PassesOwn.looking).run [] s σ H D (I.toTry _) hw) (fun fl s1 z => ?_) fun e s1 z => z)
  · obtain ⟨a, B, sI, pins', σ', H', cls, d, rfl, J0, nb, up, sky, na, os, ag, wx⟩ := z
    have J : Inv X pins σ' H' sI := J0.ofTry ok
    rw [hst] at sky
    show wpAny (model X.prog X.w) X.A (noteFrame (.ref a) X.env) _ _ _
    refine Sky.land Zc.steady frm hfm sky fun h3 fl3 up3 => ?_
    have J3 : Inv X pins σ' H' { s' with heap := h3 } := J.landed nb fl3.1 (up.trans up3) os ag
    obtain ⟨oe3, vs3, at3, z3, d3⟩ := fl3.there
    have off : a ∉ frs (X.env :: X.outer) := by
      intro hm
      obtain ⟨_, o', e', nf⟩ := fl3.2.2.1.mem hm
      rw [at3] at e'
      cases e'
      exact nf _ d3
    have nL : a ≠ X.env.locals := by
      rintro rfl
      exact off (List.mem_filterMap.mpr ⟨X.env, List.mem_cons_self, hfm⟩)
    have nF : a ∉ X.fs := by
      intro hm
      obtain ⟨e, he, q⟩ := List.mem_filterMap.mp hm
      exact off (List.mem_filterMap.mpr ⟨e, List.mem_cons_of_mem _ he, q⟩)
    have S3 := J3.suite at3 d3 na nL nF
    have lt : PySem.W.Looks (model X.prog X.w) h3 (typeOf (.ref a)) cls := by
      intro A Q E s k q
      exact wpAny_typeOf_ref (k _ _ at3) (by rw [z3.1]; exact q)
    have name : ∀ {x : Str} {c : Value} {np : Pos} {Q : Value → Shared → Prop} {E : Value → Shared → Prop}, Names X x c → Q c { s' with heap := h3 } →
        wpAny (model X.prog X.w) (X.A.mark (some (.ref a))) (eval (.Name x np) X.env) Q E { s' with heap := h3 } := by
      intro x c np Q E hc q
      obtain ⟨n1, n2, n3 | ⟨n3, n4, n5⟩⟩ := hc
      · exact ld_glob (X := X.suite a ((a, oe3) :: (X.pn ++ pins))) S3 n1 n3 q n2
      · exact ld_blt (X := X.suite a ((a, oe3) :: (X.pn ++ pins))) S3 n1 n3 n4 q n5 n2
    have go : ∀ {hs : List ExceptHandler} {l' : List (Value × Option Nat × Su)}, HdsT X hs l' → wTry X.K Wout D l' cls d σ' H' →
        wpAny (model X.prog X.w) X.A (handleBy (.ref a) X.env hs) (SP X pins D) X.xe { s' with heap := h3 } := by
      intro hs l' hk
      induction hk with
      | nil =>
        intro wo
        refine wpAny_handleBy_nil ?_
        obtain ⟨_, _, _, oe, vs, T, oT, ts', he, hz, hd, h1, _⟩ := id fl3
        unfold PySem.passOn
        refine wpAny_bind (wpAny_field he hd h1 ?_)
        rw [if_neg (by simp : ¬ ((Value.ref T == Value.none) = true))]
        have fin : wpAny (model X.prog X.w) X.A (setFlight (.ref a) X.env.frame) (fun _ s4 =>
            wpAny (model X.prog X.w) X.A (throw (.ref a) : Sem Flow) (SP X pins D) X.xe s4) X.xe { s' with heap := h3 } := by
          rw [hfm]
          refine HandSPX.setFlight_upZ fl3 fun h4 hh4 up4 => wpAny_throw (tk _ _ ⟨a, B, sI, pins, σ', H', cls, d, rfl, J, nb, (up.trans up3).trans up4, ?_, na, os, ag, wo⟩)
          exact Or.inr (Or.inr (hst ▸ hh4))
        first
          | exact wpAny_bind fin
          | exact wpAny_bind (wpAny_pure (wpAny_bind fin))
      | @bare x c ts b₀ su np p' hds2 l2 hc hsu _ ih =>
        intro ⟨b, e1, yes, no⟩
        refine wpAny_handleBy_cons (codeAny_handlers_test ?_) (fun q => nomatch q)
        refine name hc ((PySem.W.exm_one (M := model X.prog X.w) J3.kIn lt e1).here ?_)
        match b, yes, no with
        | false, _, no => exact ih (no rfl)
        | true, yes, _ =>
          refine codeAny_handlers_suite (HandSPX.lands_againZ fl3 fun h4 fl4 up4 => ?_)
          have J4 : Inv X pins σ' H' { s' with heap := h4 } := J.landed nb fl4.1 ((up.trans up3).trans up4) os ag
          obtain ⟨oe4, vs4, at4, z4, d4⟩ := fl4.there
          refine wpAny_mono ((hsu a oe4 cls d (X.pn ++ pins) z4 ⟨_, d4⟩).run [] _ _ H' _ (J4.suite at4 d4 na nL nF) (yes rfl a na)) ?_ (fun _ _ q => q.elim)
          intro fl s6 q
          match fl, q with
          | .next, ⟨σ6, H6, S6, q6⟩ => exact ⟨_, _, S6.unsuite ok, q6⟩
          | .brk, ⟨σ6, H6, S6, q6⟩ => exact ⟨_, _, S6.unsuite ok, q6⟩
          | .cont, ⟨σ6, H6, S6, q6⟩ => exact ⟨_, _, S6.unsuite ok, q6⟩
          | .ret u, ⟨v6, σ6, H6, S6, r6, q6⟩ => exact ⟨_, _, _, S6.unsuite ok, r6, q6⟩
      | @named x n i c ts b₀ su np p' hds2 l2 hi hl hc hsu _ ih =>
        intro ⟨b, e1, yes, no⟩
        refine wpAny_handleBy_cons (codeAny_handlers_test ?_) (fun q => nomatch q)
        refine name hc ((PySem.W.exm_one (M := model X.prog X.w) J3.kIn lt e1).here ?_)
        match b, yes, no with
        | false, _, no => exact ih (no rfl)
        | true, yes, _ =>
          refine codeAny_handlers_suite_as (HandSPX.lands_againZ fl3 fun h4 fl4 up4 => ?_)
          have J4 : Inv X pins σ' H' { s' with heap := h4 } := J.landed nb fl4.1 ((up.trans up3).trans up4) os ag
          obtain ⟨oe4, vs4, at4, z4, d4⟩ := fl4.there
          refine store_ok (X := X.suite a ((a, oe4) :: (X.pn ++ pins))) (v := .ref a) (J4.suite at4 d4 na nL nF) hN hi (Or.inl hl) rfl (fun s5 S5 => ?_) (Or.inr hl)
          refine wpAny_mono ((hsu a oe4 cls d (X.pn ++ pins) z4 ⟨_, d4⟩).run [] s5 _ H' _ S5 (yes rfl a na)) ?_ (fun _ _ q => q.elim)
          intro fl s6 q
          have off2 : ∀ {σ6 : L2.St} {H6 : Hp} {R : Shared → Prop}, Inv (X.suite a ((a, oe4) :: (X.pn ++ pins))) [] σ6 H6 s6 → (∀ s7, Inv X pins (σ6.set i none) H6 s7 → R s7) →
              wpAny (model X.prog X.w) X.A (do bindName X.env n .none; unbindBehindTheSuite X.env n p') (fun _ s7 => R s7) X.xe s6 := by
            intro σ6 H6 R S6 hq
            exact gone_ok (S6.unsuite ok) hN hi hl hq
          match fl, q with
          | .next, ⟨σ6, H6, S6, q6⟩ => exact off2 S6 fun s7 J7 => ⟨_, _, J7, q6⟩
          | .brk, ⟨σ6, H6, S6, q6⟩ => exact off2 S6 fun s7 J7 => ⟨_, _, J7, q6⟩
          | .cont, ⟨σ6, H6, S6, q6⟩ => exact off2 S6 fun s7 J7 => ⟨_, _, J7, q6⟩
          | .ret u, ⟨v6, σ6, H6, S6, r6, q6⟩ => exact off2 S6 fun s7 J7 => ⟨_, _, _, J7, r6, q6⟩
    exact go hh wx
  · match fl, z with
    | .next, ⟨σ', H', J', q⟩ => exact wpAny_execs_nil ⟨σ', H', J'.ofTry ok, q⟩
    | .brk, ⟨σ', H', J', q⟩ => exact ⟨σ', H', J'.ofTry ok, q⟩
    | .cont, ⟨σ', H', J', q⟩ => exact ⟨σ', H', J'.ofTry ok, q⟩
    | .ret u, ⟨v, σ', H', J', r, q⟩ => exact ⟨v, σ', H', J'.ofTry ok, r, q⟩
end
/-- isinstance(e, T), e the exception that the suite holds at a, its class at D, its dict d -/
def rIsErr (K : PySem.W.Frag) (D a : Addr) (d : Option Addr) : List V → Hp → VK → Prop := fun xs H Q => ∃ (n : String) (b : Bool), xs = [.ref a, .ty n] ∧ (d = none ∨ ∃ dd fs, d = some dd ∧ H dd = some (.xd fs)) ∧
  PySem.W.kitOne K (.ref D) (.type n) = some b ∧ Q (.bl b) H
theorem call_isErr {X : Cx} {a D fI : Addr} {d : Option Addr} {oe : Obj} {pn : List (Addr × Obj)} (T : ExcT X.K D fI) (h1 : PySem.W.specialIn X.K (.builtin "object.__class__") "__get__" = some (some (.builtin "getset_descriptor.__get__")))
    (h2 : PySem.W.takesIn X.K (.builtin "object.__class__") = some true) (hz : Zc (.ref D) d oe) (hf : ∃ vs, oe.data = .fields vs) : CallR (X.suite a ((a, oe) :: pn)) (.builtin "isinstance") (rIsErr X.K D a d) := by
  intro pins s σ H xs us Q I r h
  obtain ⟨n, b, rfl, hd, e, q⟩ := h
  cases r with
  | cons r1 r2 =>
    cases r2 with
    | cons r2 r3 =>
      cases r3
      cases r1
      cases r2
      obtain ⟨hget, _⟩ := I.pin (a, oe) (List.mem_append.mpr (Or.inl List.mem_cons_self))
      obtain ⟨vs, hv⟩ := hf
      have hcl : (PySem.W.clsIn X.K D).isSome = true := by
        obtain ⟨nm, qn, N, bs, bm, sn, sub, ab, col, dd, k0, k1, k2, k3, k5, hC, _⟩ := T.oex.cls
        unfold PySem.W.clsIn
        rw [hC]
        rfl
      have J : ∃ od, PySem.W.InstAt s.heap a oe D od := by
        obtain ⟨oc, od, oda, osl⟩ := oe
        obtain ⟨z1, z2⟩ := hz
        dsimp only at z1 z2 hv
        subst z1 z2 hv
        rcases hd with rfl | ⟨dd, fs, rfl, hx⟩
        · exact ⟨none, hget, rfl, rfl, trivial⟩
        · obtain ⟨mA, ⟨o, _, _, ho, _⟩, _⟩ := (show ObjOk X.prog X.w H s.heap dd (.xd fs) from I.hok dd _ hx)
          exact ⟨some o, hget, rfl, rfl, ho⟩
      obtain ⟨od, J⟩ := J
      exact PySem.W.kia_one (PySem.W.kitx_exc hcl T.xf.ga T.xf.gg T.xf.exC T.cl h1 h2 T.mro) I.kIn J e (fun z => nomatch z) fun tk => ⟨.bl b, H, I.kept (t' := tk) fun _ _ z => z, rfl, q⟩
/-- .. whatever class it is of -/
def rIsAny (K : PySem.W.Frag) (a : Addr) (cls : Value) (d : Option Addr) : List V → Hp → VK → Prop := fun xs H Q => ∃ D fI : Addr, cls = .ref D ∧ ExcT K D fI ∧ rIsErr K D a d xs H Q
theorem call_isAny {X : Cx} {a : Addr} {cls : Value} {d : Option Addr} {oe : Obj} {pn : List (Addr × Obj)} (h1 : PySem.W.specialIn X.K (.builtin "object.__class__") "__get__" = some (some (.builtin "getset_descriptor.__get__")))
    (h2 : PySem.W.takesIn X.K (.builtin "object.__class__") = some true) (hz : Zc cls d oe) (hf : ∃ vs, oe.data = .fields vs) : CallR (X.suite a ((a, oe) :: pn)) (.builtin "isinstance") (rIsAny X.K a cls d) := by
  intro pins s σ H xs us Q I r h
  obtain ⟨D, fI, rfl, T, h⟩ := h
  exact call_isErr T h1 h2 hz hf pins s σ H xs us Q I r h
end Ly

namespace Ly
open PySem PySem.Spec PyProof.Rows L2
/-! the __init__ of an own exception: no field, one, two -/
/-- what has been made: the fields fs in the dict d, if there are any -/
def Made (H : Hp) (fs : List (Str × V)) (d : Option Addr) (H' : Hp) : Prop := Same H H' ∧ ((fs = [] ∧ d = none) ∨ ∃ dd, d = some dd ∧ H dd = none ∧ H' dd = some (.xd fs))
def spI0 : Sp := fun vs H Q _ => ∃ a : Addr, vs = [.ref a] ∧ Q .non H
def spI1 (K : PySem.W.Frag) (g : Str) : Sp := fun vs H Q _ => ∃ (a C : Addr) (y : V), vs = [.ref a, y] ∧ H a = some (exo a C none) ∧ OexC K C ∧ PySem.W.findIn K (.ref C) g = some none ∧
  ∀ dx, H dx = none → dx ≠ a → Q .non (upd (upd H dx (exd dx [(g, y)])) a (exo a C (some dx)))
def spI2 (K : PySem.W.Frag) (g h : Str) : Sp := fun vs H Q _ => ∃ (a C : Addr) (y z : V), vs = [.ref a, y, z] ∧ H a = some (exo a C none) ∧ OexC K C ∧ PySem.W.findIn K (.ref C) g = some none ∧ PySem.W.findIn K (.ref C) h = some none ∧
  ∀ dx, H dx = none → dx ≠ a → Q .non (upd (upd (upd H dx (exd dx [(g, y)])) a (exo a C (some dx))) dx (exd dx [(h, z), (g, y)]))
section
variable {P : Program} {w : World} {K : PySem.W.Frag} {mg : Str → Option Value} {base : Heap} {q : Str} {params : Arguments} {body : List Stmt} {sc : Scope} {f : Addr} {fd : FuncData}
theorem ok_i0 {p : Pos} (F : FunD K "__init__" q params [.Pass p] sc [] [] f fd) (S : FnScope ["self"] ["self"] sc) : FnOk P w K mg base CX0 1 f fd ["self"] spI0 := by
  refine F.ok S (fun vs H Q E h => ?_) (fun cd A outer s H vs Q E hr h => ?_)
  · obtain ⟨a, rfl, _⟩ := h
    rfl
  · obtain ⟨a, rfl, hQ⟩ := h
    exact ⟨_, PSs.nox (pss_one ps_pass), hQ⟩
theorem ok_i1 {g y : Str} {p1 p2 p3 p4 : Pos} (F : FunD K "__init__" q params [.Assign [.Attribute (.Name "self" p1) g p2] (.Name y p3) p4] sc [] [] f fd) (S : FnScope ["self", y] ["self", y] sc) (hl : sc.names.lookup y = some .local)
    (hs : sc.names.lookup ("self" : Str) = some .local) (h1 : (y == ("__debug__" : Str)) = false) (h2 : (y == ("__classdict__" : Str)) = false) : FnOk P w K mg base CX0 1 f fd ["self", y] (spI1 K g) := by
  refine F.ok S (fun vs H Q E h => ?_) (fun cd A outer s H vs Q E hr h => ?_)
  · obtain ⟨a, C, y, rfl, _⟩ := h
    rfl
  · obtain ⟨a, C, y, rfl, ea, T, hno, hQ⟩ := h
    refine ⟨_, PSs.nox (pss_one (ps_ost (pv 0 rfl (Or.inl hs)) (pv 1 rfl (Or.inl hl) h1 h2))), ?_⟩
    exact ⟨y, rfl, .ref a, rfl, a, C, rfl, T, hno, .inl ⟨ea, fun dx n ne => hQ dx n ne⟩⟩
theorem ok_i2 {g h y z : Str} {p1 p2 p3 p4 p5 p6 p7 p8 : Pos} (F : FunD K "__init__" q params [.Assign [.Attribute (.Name "self" p1) g p2] (.Name y p3) p4, .Assign [.Attribute (.Name "self" p5) h p6] (.Name z p7) p8] sc [] [] f fd)
    (S : FnScope ["self", y, z] ["self", y, z] sc) (hs : sc.names.lookup ("self" : Str) = some .local) (hl : sc.names.lookup y = some .local) (hl2 : sc.names.lookup z = some .local)
    (h1 : (y == ("__debug__" : Str)) = false) (h2 : (y == ("__classdict__" : Str)) = false) (h3 : (z == ("__debug__" : Str)) = false) (h4 : (z == ("__classdict__" : Str)) = false) : FnOk P w K mg base CX0 1 f fd ["self", y, z] (spI2 K g h) := by
  refine F.ok S (fun vs H Q E h => ?_) (fun cd A outer s H vs Q E hr h => ?_)
  · obtain ⟨a, C, y, z, rfl, _⟩ := h
    rfl
  · obtain ⟨a, C, y, z, rfl, ea, T, hno, hno2, hQ⟩ := h
    refine ⟨_, PSs.nox (pss_cons (ps_ost (pv 0 rfl (Or.inl hs)) (pv 1 rfl (Or.inl hl) h1 h2)) (pss_one (ps_ost (pv 0 rfl (Or.inl hs)) (pv 2 rfl (Or.inl hl2) h3 h4)))), ?_⟩
    refine ⟨y, rfl, .ref a, rfl, a, C, rfl, T, hno, .inl ⟨ea, fun dx n ne => ?_⟩⟩
    exact ⟨z, rfl, .ref a, rfl, a, C, rfl, T, hno2, .inr ⟨dx, _, upd_same, by rw [upd_ne ne, upd_same], by simp, hQ dx n ne⟩⟩
end
/-! the readings of C(..), over these -/
theorem made0 {C : Addr} {σ : L2.St} {H : Hp} {Q : XK} (h : ∀ H', Made H [] none H' → Q (.ref C) none H') : tMkB C spI0 σ H Q := fun a ha =>
  ⟨a, rfl, rfl, upd_same, h _ ⟨fun b o z => by rw [L2.del_ne (ne_of_none z ha), upd_ne (ne_of_none z ha)]; exact z, .inl ⟨rfl, rfl⟩⟩⟩
theorem made1 {K : PySem.W.Frag} {C : Addr} {g : Str} {ta : TA} {σ : L2.St} {H : Hp} {Q : XK} (T : OexC K C) (hno : PySem.W.findIn K (.ref C) g = some none)
    (h : ta σ H fun vs H1 => ∃ y, vs = [y] ∧ ∀ d H', Made H1 [(g, y)] d H' → Q (.ref C) d H') (mono : ∀ R R' : List V → Hp → Prop, (∀ vs H, R vs H → R' vs H) → ta σ H R → ta σ H R') : tMkO C (spI1 K g) [] ta σ H Q := by
  refine mono _ _ (fun vs H1 h1 => ?_) h
  obtain ⟨y, rfl, h1⟩ := h1
  refine ⟨by simp, fun a ha => ⟨a, C, y, rfl, upd_same, T, hno, fun dx n ne => ⟨rfl, dx, _, upd_same, by rw [upd_ne ne, upd_same], ?_, h1 _ _ ⟨fun b o z => ?_, .inr ⟨dx, rfl, ?_, upd_same⟩⟩⟩⟩⟩
  · rw [upd_ne ne] at n
    exact n
  · have na := ne_of_none z ha
    have nd : b ≠ dx := by
      rintro rfl
      rw [upd_ne ne] at n
      rw [n] at z
      cases z
    rw [upd_ne nd, L2.del_ne na, upd_ne na, upd_ne nd, upd_ne na]
    exact z
  · rw [upd_ne ne] at n
    exact n
theorem made2 {K : PySem.W.Frag} {C : Addr} {g h : Str} {ta : TA} {σ : L2.St} {H : Hp} {Q : XK} (T : OexC K C) (hno : PySem.W.findIn K (.ref C) g = some none) (hno2 : PySem.W.findIn K (.ref C) h = some none)
    (hh : ta σ H fun vs H1 => ∃ y z, vs = [y, z] ∧ ∀ d H', Made H1 [(h, z), (g, y)] d H' → Q (.ref C) d H') (mono : ∀ R R' : List V → Hp → Prop, (∀ vs H, R vs H → R' vs H) → ta σ H R → ta σ H R') : tMkO C (spI2 K g h) [] ta σ H Q := by
  refine mono _ _ (fun vs H1 h1 => ?_) hh
  obtain ⟨y, z, rfl, h1⟩ := h1
  refine ⟨by simp, fun a ha => ⟨a, C, y, z, rfl, upd_same, T, hno, hno2, fun dx n ne => ⟨rfl, dx, _, by rw [upd_ne (Ne.symm ne), upd_same], upd_same, ?_, h1 _ _ ⟨fun b o e => ?_, .inr ⟨dx, rfl, ?_, upd_same⟩⟩⟩⟩⟩
  · rw [upd_ne ne] at n
    exact n
  · have na := ne_of_none e ha
    have nd : b ≠ dx := by
      rintro rfl
      rw [upd_ne ne] at n
      rw [n] at e
      cases e
    rw [upd_ne nd, L2.del_ne na, upd_ne nd, upd_ne na, upd_ne nd, upd_ne na]
    exact e
  · rw [upd_ne ne] at n
    exact n
end Ly

namespace Ly
open PySem PySem.Spec PyProof.Rows L2
/-- a.update(o), two dicts with int and text keys -/
def rUpd : V → List V → Hp → VK → Prop := fun x xs H Q => ∃ (a o : Addr) (kvs more : List (Key × V)), x = .ref a ∧ xs = [.ref o] ∧ a ≠ o ∧ H a = some (.dK kvs) ∧ H o = some (.dK more) ∧ kvs.length + more.length ≤ 1000 ∧ (mergeK kvs more).length ≤ 1000 ∧
  Q .non (upd H a (.dK (mergeK kvs more)))
theorem mt_upd {X : Cx} : MtR X "dict.update" rUpd := by
  intro pins s σ H x xs v us Q I rx rv h
  obtain ⟨a, o, kvs, more, rfl, rfl, ne, ea, eo, hz, hz2, q⟩ := h
  cases rx
  cases rv with
  | cons r1 r2 =>
    cases r2
    cases r1
    obtain ⟨_, ha, vs, ra, da⟩ := dk_of I.hok ea
    obtain ⟨_, ho, rs, ro, dq⟩ := dk_of I.hok eo
    have e1 := ra.length
    have e2 := ro.length
    have big : (1000 : Nat) ≤ sizeLine := by
      rw [sizeLine_eq]
      decide
    refine call_meetsIn PySem.F.slot_dict_update da.typeIs PySem.F.entry_dict_update (PySem.F.args_dict_update_2 _ _) (meets_dict_update (mixKind X.prog X.w) a o ne ho) ⟨vs, rs, da, dq, by omega, fun h' d' o' hs => ?_⟩
    have he : ∃ z, h'.get? a = some z := by
      obtain ⟨z, _, _, hz, _⟩ := d'
      exact ⟨z, hz⟩
    refine ⟨.non, _, d_write (t' := s.toks) I (by rw [ea]; exact True.intro) hs he (dk_new (Nat.le_trans hz2 big) ha (KV.merge ro ra) d'), rfl, q⟩
end Ly

namespace K00
open PySem PySem.Spec PyProof.Rows L2 Ly
def topS (i : Nat) : Stmt := PySem.Challenge.pw_laidanyhow_k00_errors_of_any_values.main.body.getD i (.Pass ⟨0, 0, 0, 0⟩)
def dG (x : Str) (i : Nat) : He.DefD := ⟨(x, none), x, x, defArgs (topS i), defBody (topS i), defScope (topS i), [], []⟩
def dM (c : Str) (q : Str) (i j : Nat) : He.DefD := ⟨(c, some "__init__"), "__init__", q, defArgs (inClass (topS i) j), defBody (inClass (topS i) j), defScope (inClass (topS i) j), [], []⟩
def one : List Str := ["Wrong", "NoWorld", "NoLand", "NoTile", "NoGuide", "NoPick", "NoNumber", "TooMany", "NoCommand"]
def all14 : List Str := ["Wrong", "NoText", "NoWorld", "NoLand", "Refused", "NoLaying", "NoTile", "NoGuide", "NoPick", "NoNumber", "TooMany", "NoForget", "NoCommand", "Nothing"]
def fn : List He.DefD := [dG "_law_bag" 17, dG "_law_take" 18, dG "_law_some" 19, dG "_law_alike" 20, dG "_law_odd" 21, dG "_law_raise_plain" 22, dG "_law_raise" 23, dG "_law_met" 24,
  dG "_law_met_back" 25, dG "_law_is_tile_error" 26, dG "law" 27,
  dM "Wrong" "Wrong.__init__" 2 0, dM "NoText" "NoText.__init__" 3 0, dM "NoWorld" "NoWorld.__init__" 4 0, dM "NoLand" "NoLand.__init__" 5 0, dM "Refused" "Refused.__init__" 6 0,
  dM "NoLaying" "NoLaying.__init__" 7 0, dM "NoTile" "NoTile.__init__" 8 0, dM "NoGuide" "NoGuide.__init__" 9 0, dM "NoPick" "NoPick.__init__" 10 0, dM "NoNumber" "NoNumber.__init__" 11 0,
  dM "TooMany" "TooMany.__init__" 12 0, dM "NoForget" "NoForget.__init__" 13 0, dM "NoCommand" "NoCommand.__init__" 14 0, dM "Nothing" "Nothing.__init__" 15 0]
def glos : List Str := (["_law_bag", "_law_take", "_law_some", "_law_alike", "_law_odd", "_law_raise_plain", "_law_raise", "_law_met", "_law_met_back", "_law_is_tile_error", "law", "TileError"] : List Str) ++ all14
def frees : List Str := ["abs", "int", "len", "repr", "sorted", "range", "isinstance", "ValueError"]
def fa : List He.Fa := glos.map He.Fa.glo ++ frees.map He.Fa.free
def fieldsOf : List (Str × Str) := [("Wrong", "place"), ("NoText", "line"), ("NoText", "column"), ("NoWorld", "fault"), ("NoLand", "fault"), ("NoTile", "cell"), ("NoGuide", "bar"), ("NoPick", "index"), ("NoNumber", "many"), ("TooMany", "most"), ("NoCommand", "line")]
def ex (K : PySem.W.Frag) : Bool :=
  all14.all (fun x => excB K (He.ga K x) (He.ma K (He.ga K x) "__init__") && (decide (PySem.W.exmOne K (.ref (He.ga K x)) (.ref (He.ga K "TileError")) = some true) &&
    (decide (PySem.W.kitOne K (.ref (He.ga K x)) (.type "ValueError") = some true) && all14.all fun y => decide (PySem.W.exmOne K (.ref (He.ga K x)) (.ref (He.ga K y)) = some (decide (x = y)))))) &&
  (fieldsOf.all (fun p => decide (PySem.W.findIn K (.ref (He.ga K p.1)) p.2 = some none)) &&
  (decide (PySem.W.specialIn K (.builtin "object.__class__") "__get__" = some (some (.builtin "getset_descriptor.__get__"))) && decide (PySem.W.takesIn K (.builtin "object.__class__") = some true)))
abbrev R : PySem.W.OpenRow := PySem.W.OpenLaw.row PySem.Challenge.rw_laidanyhow_k00_errors_of_any_values
abbrev hk : PySem.W.Hook := hookS 5 fa fn ex
def ob (s : PySem.W.SharedT) : AlS := seenS 5 fa fn ex (HandSHeadRun.getT s)
theorem ob_eq (s : PySem.W.SharedT) : ob s = hk.obs s.abs := seenS_eq (HandSHeadRun.getT_eq s)
def loose : List Str := ["TileError", "Wrong", "NoText", "NoWorld", "NoLand", "Refused", "NoLaying", "NoTile", "NoGuide", "NoPick", "NoNumber", "TooMany", "NoForget", "NoCommand", "Nothing",
  "_law_bag", "_law_take", "_law_some", "_law_alike", "_law_odd", "_law_raise_plain", "_law_raise", "_law_met", "_law_met_back", "_law_is_tile_error"]
theorem run (w : World) : HandSHeadRun.RunEq R (PySem.W.view R.prog [27]) hk ob 5000 loose w := by
  intro os
  kernel_rfl
end K00

namespace K00
open PySem PySem.Spec PyProof.Rows L2 Ly
abbrev FnP (K : PySem.W.Frag) (x : Str) (i : Nat) (f : Addr) (fd : FuncData) : Prop := FunD K x x (defArgs (topS i)) (defBody (topS i)) (defScope (topS i)) [] [] f fd
section
variable {P : Program} {w : World} {K : PySem.W.Frag} {mg : Str → Option Value} {base : Heap} {f : Addr} {fd : FuncData}
theorem scBag : FnScope ["script", "cell"] ["script"] (defScope (topS 17)) := ⟨rfl, rfl, rfl, by decide +kernel, rfl, by decide +kernel, by decide +kernel⟩
theorem scTake : FnScope ["bag", "many", "cell", "stirred", "value", "begin", "second"] ["bag", "many"] (defScope (topS 18)) := ⟨rfl, rfl, rfl, by decide +kernel, rfl, by decide +kernel, by decide +kernel⟩
theorem scSome : FnScope ["bag", "things"] ["bag", "things"] (defScope (topS 19)) := ⟨rfl, rfl, rfl, by decide +kernel, rfl, by decide +kernel, by decide +kernel⟩
/-- a draw: below many -/
def spTake : Sp := fun vs H Q _ => ∃ (b : Addr) (n : Int), vs = [.ref b, .int n] ∧ IsBag H b ∧ 0 < n ∧ n ≤ 1000000 ∧ ∀ v H', 0 ≤ v → v < n → Kp b H H' → IsBag H' b → Q (.int v) H'
theorem ok_take (F : FnP K "_law_take" 18 f fd) (mi : mg "int" = none) : FnOk P w K mg base CX0 1 f fd ["bag", "many"] spTake := by
  refine F.ok scTake (fun vs H Q E h => ?_) (fun cd A outer s H vs Q E hr h => ?_)
  · obtain ⟨b, n, rfl, _⟩ := h
    rfl
  · obtain ⟨b, n, rfl, ⟨q, x0, x1, x2, ms, hB⟩, hn, hn2, hQ⟩ := h
    -- behind the first if
    obtain ⟨tR, hR, qR⟩ : ∃ t, PSs (cxOf CX0 P w K mg base ["bag", "many", "cell", "stirred", "value", "begin", "second"] "_law_take" (defScope (topS 18)) f cd A outer s H E).nox ((defBody (topS 18)).drop 1) t ∧
        ∀ (c d : Option V) (H1 : Hp) (y0 y1 y2 : Int), BagAt H1 b q y0 y1 y2 ms → Kp b H H1 →
          t { nx := fun _ H' => Q .non H', rt := Q } [some (.ref b), some (.int n), c, d, none, none, none] H1 := by
      refine ⟨_, (pss_cons (ps_if (pt_cmpR op_gt (pe_ix ix_list (pv 0) pe_int (fun _ _ => rfl)) pe_int (nomark _))
        (pss_cons (ps_set (i := 4) scTake.nd rfl (.inl rfl) (pe_op op_mod (pe_callTy call_int1 (by rfl) mi (by decide +kernel) (pa_cons (pe_ix ix_list (pv 0) pe_int (fun _ _ => rfl)) pa_nil)) (pv 1)))
        (pss_cons (ps_asg (pe_op op_fdiv (pe_callTy call_int1 (by rfl) mi (by decide +kernel) (pa_cons (pe_ix ix_list (pv 0) pe_int (fun _ _ => rfl)) pa_nil)) (pv 1)) (pg_sub (pv 0) pe_int set_list))
        (pss_one (ps_ret (pv 4))))) pss_nil)
      (pss_cons (ps_set (i := 5) scTake.nd rfl (.inl rfl) (pe_op op_mod (pe_callTy call_int1 (by rfl) mi (by decide +kernel) (pa_cons (pe_op op_mul (pe_op op_add (pe_ix ix_list (pv 0) pe_int (fun _ _ => rfl)) pe_int) pe_int) pa_nil)) pe_int))
      (pss_cons (ps_set (i := 6) scTake.nd rfl (.inl rfl) (pe_op op_mod (pe_callTy call_int1 (by rfl) mi (by decide +kernel) (pa_cons (pe_op op_mul (pe_op op_mod (pe_callTy call_int1 (by rfl) mi (by decide +kernel) (pa_cons (pe_op op_mul (pv 5) (pv 5)) pa_nil)) pe_int) pe_int) pa_nil)) pe_int))
      (pss_one (ps_ret (pe_op op_mod (pe_callTy call_int1 (by rfl) mi (by decide +kernel) (pa_cons (pe_op op_fdiv (pv 6) pe_int) pa_nil)) (pv 1))))))), ?_⟩
      intro c d H1 y0 y1 y2 hB1 k1
      have hS : SqL K H1 b [.int y0, .int y1, .int y2, .ref q] := .inl (.inl hB1.top)
      refine ⟨.ref b, rfl, b, _, 0, .int y0, rfl, rfl, hS, rfl, _, _, rfl, rfl, _, rfl, ite2 (fun _ => ?_) (fun _ => ?_)⟩
      · refine ⟨.ref b, rfl, b, _, 0, .int y0, rfl, rfl, hS, rfl, .inl ⟨_, rfl, _, rfl, _, _, rfl, rfl, hn, ?_⟩⟩
        refine ⟨.ref b, rfl, b, _, 0, .int y0, rfl, rfl, hS, rfl, .inl ⟨_, rfl, _, rfl, _, _, rfl, rfl, ⟨hn, by omega⟩, ?_⟩⟩
        refine ⟨.ref b, rfl, b, _, 0, 0, rfl, rfl, hB1.top, rfl, ?_⟩
        refine ⟨_, rfl, ?_⟩
        exact hQ _ _ (Int.emod_nonneg _ (by omega)) (Int.emod_lt_of_pos _ hn) (k1.trans Kp.set) ⟨q, _, _, _, ms, hB1.set (Int.ediv_nonneg hB1.n0 (by omega)) hB1.n1 hB1.n2⟩
      · refine ⟨.ref b, rfl, b, _, 1, .int y1, rfl, rfl, hS, rfl, _, _, rfl, rfl, _, _, rfl, rfl, .inr ⟨by decide, by decide⟩, .inl ⟨_, rfl, _, _, rfl, rfl, (show (0 : Int) < 1000000007 by decide), ?_⟩⟩
        have m0 : ∀ z : Int, 0 ≤ z % 1000000007 ∧ z % 1000000007 < 1000000007 := fun z => ⟨Int.emod_nonneg _ (by decide), Int.emod_lt_of_pos _ (by decide)⟩
        have m1 : ∀ z : Int, 0 ≤ z % 998244353 ∧ z % 998244353 < 998244353 := fun z => ⟨Int.emod_nonneg _ (by decide), Int.emod_lt_of_pos _ (by decide)⟩
        have a0 := m0 ((y1 + 1) * 39373)
        refine ⟨_, rfl, _, rfl, _, _, rfl, rfl, .inl ⟨by omega, by omega⟩, .inl ⟨_, rfl, _, _, rfl, rfl, (show (0 : Int) < 998244353 by decide), _, _, rfl, rfl, .inr ⟨by decide, by decide⟩, .inl ⟨_, rfl, _, _, rfl, rfl, (show (0 : Int) < 998244353 by decide), ?_⟩⟩⟩
        refine ⟨_, rfl, _, _, rfl, rfl, ⟨by decide, by decide⟩, .inl ⟨_, rfl, _, rfl, _, _, rfl, rfl, hn, ?_⟩⟩
        exact hQ _ _ (Int.emod_nonneg _ (by omega)) (Int.emod_lt_of_pos _ hn) k1 ⟨q, _, _, _, ms, hB1⟩
    -- in the first if, behind the if within
    obtain ⟨tM, hM, qM⟩ : ∃ t, PSs (cxOf CX0 P w K mg base ["bag", "many", "cell", "stirred", "value", "begin", "second"] "_law_take" (defScope (topS 18)) f cd A outer s H E).nox ((suiteOf (nthS (defBody (topS 18)) 0)).drop 3) t ∧
        ∀ (c : Int) (d : Option V) (H1 : Hp) (y0 y1 y2 : Int), BagAt H1 b q y0 y1 y2 ms → Kp b H H1 →
          t { nx := tR { nx := fun _ H' => Q .non H', rt := Q }, rt := Q } [some (.ref b), some (.int n), some (.int c), d, none, none, none] H1 := by
      refine ⟨_, (pss_cons (ps_set (i := 3) scTake.nd rfl (.inl rfl) (pe_op op_add (pe_op op_add (pe_op op_mul (pe_ix ix_list (pv 0) pe_int (fun _ _ => rfl)) pe_int) (pe_op op_mod (pe_callTy call_int1 (by rfl) mi (by decide +kernel) (pa_cons (pv 2) pa_nil)) pe_int)) (pe_op op_mul pe_int (pe_ix ix_list (pv 0) pe_int (fun _ _ => rfl)))))
      (pss_one (ps_asg (pe_op op_mod (pe_callTy call_int1 (by rfl) mi (by decide +kernel) (pa_cons (pv 3) pa_nil)) pe_int) (pg_sub (pv 0) pe_int set_list)))), ?_⟩
      intro c d H1 y0 y1 y2 hB1 k1
      have hS : SqL K H1 b [.int y0, .int y1, .int y2, .ref q] := .inl (.inl hB1.top)
      refine ⟨.ref b, rfl, b, _, 1, .int y1, rfl, rfl, hS, rfl, _, _, rfl, rfl, .inr ⟨by decide, by decide⟩, _, rfl, .inl ⟨_, rfl, _, _, rfl, rfl, (show (0 : Int) < 2147483647 by decide), _, _, rfl, rfl, ?_⟩⟩
      refine ⟨.ref b, rfl, b, _, 2, .int y2, rfl, rfl, hS, rfl, _, _, rfl, rfl, .inl ⟨by decide, by decide⟩, _, _, rfl, rfl, ?_⟩
      refine ⟨_, rfl, .inl ⟨_, rfl, _, _, rfl, rfl, (show (0 : Int) < 2147483647 by decide), ?_⟩⟩
      refine ⟨.ref b, rfl, b, _, 1, 1, rfl, rfl, hB1.top, rfl, ?_⟩
      exact qR _ _ _ _ _ _ (hB1.set hB1.n0 (Int.emod_nonneg _ (by decide)) hB1.n2) (k1.trans Kp.set)
    refine ⟨_, PSs.nox (pss_cons (ps_if (pt_cmpR op_eq (pe_ix ix_list (pv 0) pe_int (fun _ _ => rfl)) pe_int (nomark _))
      (pss_cons (ps_set (i := 2) scTake.nd rfl (.inl rfl) (pe_ix ix_list (pe_op op_cat (pe_slice sl_list (pe_ix ix_list (pv 0) pe_int (fun _ _ => rfl)) (po_some (pe_ix ix_list (pv 0) pe_int (fun _ _ => rfl))) po_none) (pe_lst (pa_cons pe_int pa_nil))) pe_int (fun _ _ => rfl)))
      (pss_cons (ps_augS (pv 0) pe_int get_list pe_int ip_add set_list)
      (pss_cons (ps_if (pt_cmpR op_ge (pv 2) (pe_op op_pow pe_int pe_int) (nomark _)) (pss_one (ps_asg (pv 2) (pg_sub (pv 0) pe_int set_list))) pss_nil) hM))) pss_nil) hR), ?_⟩
    have hS : SqL K H b [.int x0, .int x1, .int x2, .ref q] := .inl (.inl hB.top)
    refine ⟨.ref b, rfl, b, _, 0, .int x0, rfl, rfl, hS, rfl, rfl, _, rfl, ite2 (fun _ => ?_) (fun _ => ?_)⟩
    · refine ⟨.ref b, rfl, b, _, 3, .ref q, rfl, rfl, hS, rfl, _, rfl, b, _, 2, .int x2, rfl, rfl, hS, rfl, _, rfl, q, _, rfl, .inl (.inl hB.cells), fun p hp => ?_⟩
      obtain ⟨zs, ez, lz⟩ := cut_ints ms (some x2) none
      rw [ez]
      have hB1 := hB.new (o := .lst (zs.map V.int)) hp
      have k1 : Kp b H (upd H p (.lst (zs.map V.int))) := Kp.new hp
      refine ⟨few_line (by decide), fun p2 hp2 => ?_⟩
      have n2 : p ≠ p2 := ne_of_none upd_same hp2
      refine ⟨p, p2, zs.map V.int, [.int 0], rfl, rfl, by rw [upd_ne n2, upd_same], upd_same, ?_, fun p3 hp3 => ?_⟩
      · rw [List.length_map]
        have := hB.few
        exact few_line (by simp only [List.length_cons, List.length_nil]; omega)
      obtain ⟨c, r, ec⟩ : ∃ (c : Int) (r : List V), zs.map V.int ++ [V.int 0] = V.int c :: r := by
        cases zs with
        | nil => exact ⟨0, [], rfl⟩
        | cons z r => exact ⟨z, _, rfl⟩
      rw [ec]
      have hB3 := (hB1.new (o := .lst [.int 0]) hp2).new (o := .lst (.int c :: r)) hp3
      have k3 := (k1.trans (Kp.new (o := .lst [.int 0]) hp2)).trans (Kp.new (b := b) (o := .lst (.int c :: r)) hp3)
      refine ⟨p3, _, 0, .int c, rfl, rfl, .inl (.inl upd_same), atI_nat (j := 0) rfl, ?_⟩
      refine ⟨.ref b, rfl, b, _, 2, .int x2, rfl, rfl, .inl (.inl hB3.top), rfl, _, _, rfl, rfl, b, _, 2, 2, rfl, rfl, hB3.top, rfl, ?_⟩
      have hB4 := hB3.set (y0 := x0) (y1 := x1) (y2 := x2 + 1) hB3.n0 hB3.n1 (by have := hB3.n2; omega)
      have k4 := k3.trans (Kp.set (b := b) (o := .lst [.int x0, .int x1, .int (x2 + 1), .ref q]))
      refine ⟨.int c, rfl, 10, 18, rfl, rfl, ⟨by decide, by decide, by decide⟩, _, _, rfl, rfl, _, rfl, ite2 (fun hc => ?_) (fun _ => ?_)⟩
      · refine ⟨_, rfl, .ref b, rfl, b, _, 0, 0, rfl, rfl, hB4.top, rfl, ?_⟩
        have hc' : (10 : Int) ^ (18 : Int).toNat ≤ c := of_decide_eq_true hc
        have h0 : (0 : Int) ≤ (10 : Int) ^ (18 : Int).toNat := by decide
        exact qM c none _ _ _ _ (hB4.set (by omega) hB4.n1 hB4.n2) (k4.trans Kp.set)
      · exact qM c none _ _ _ _ hB4 k4
    · exact qR none none H x0 x1 x2 hB (Kp.refl b H)
end
end K00

namespace K00
open PySem PySem.Spec PyProof.Rows L2 Ly
section
variable {P : Program} {w : World} {K : PySem.W.Frag} {mg : Str → Option Value} {base : Heap} {f fT : Addr} {fd fdT : FuncData}
/-- the bag of a script -/
def spBag (K : PySem.W.Frag) : Sp := fun vs H Q _ => ∃ (a : Addr) (ns : List Int), vs = [.ref a] ∧ SqL K H a (ns.map V.int) ∧ ns.length ≤ 63 ∧ ∀ b H', Same H H' → H b = none → IsBag H' b → Q (.ref b) H'
theorem ok_bag (F : FnP K "_law_bag" 17 f fd) (ma : mg "abs" = none) : FnOk P w K mg base CX0 1 f fd ["script"] (spBag K) := by
  refine F.ok scBag (fun vs H Q E h => ?_) (fun cd A outer s H vs Q E hr h => ?_)
  · obtain ⟨a, ns, rfl, _⟩ := h
    rfl
  · obtain ⟨a, ns, rfl, hS, hl, hQ⟩ := h
    refine ⟨_, PSs.nox (pss_one (ps_ret (pe_lst (pa_cons pe_int (pa_cons pe_int (pa_cons pe_int (pa_cons
      (pe_lc (own := [("cell", 1)]) (g := gName 1) (tt := tYes) rfl scBag.nd (pi_list (pe_slice sl_list (pv 0) po_none (po_some pe_int)))
        (blkOk_by (N := ["script", "cell"]) (sc := defScope (topS 17)) (by decide +kernel)) (fun _ _ _ _ _ => pg_name (i := 1) scBag.nd rfl (Or.inl rfl)) (fun _ _ _ _ _ => pts_nil)
        (fun _ _ _ _ _ => pe_callB call_abs (by rfl) ma (by decide +kernel) (pa_cons (pv 1) pa_nil))) pa_nil))))))), ?_⟩
    refine ⟨.ref a, rfl, 63, rfl, a, _, rfl, hS, fun p hp => ?_⟩
    obtain ⟨zs, ez, lz⟩ := cut_ints ns none (some 63)
    rw [ez]
    have sp : Same H (upd H p (.lst (zs.map V.int))) := same_new hp
    refine ⟨p, rfl, ⟨_, .inl (.inl upd_same)⟩, fun D hD => ?_⟩
    have nD : p ≠ D := ne_of_none upd_same hD
    refine lc_list (xs := zs.map V.int) (fun i H' => H' p = some (.lst (zs.map V.int)) ∧ Same (upd H p (.lst (zs.map V.int))) H' ∧ ∃ acc : List Int, acc.length = i ∧ H' D = some (.lst (acc.map V.int)))
      ⟨by rw [upd_ne nD, upd_same], same_new hD, [], rfl, upd_same⟩ (fun i H' _ h' => .inl (.inl h'.1)) ?_ ?_
    · rintro i x H' hx ⟨h1, h2, acc, h3, h4⟩
      obtain ⟨z, hz, rfl⟩ : ∃ z : Int, zs[i]? = some z ∧ x = V.int z := by
        rw [List.getElem?_map] at hx
        match e : zs[i]?, hx with
        | some z, hx => exact ⟨z, rfl, (Option.some.inj hx).symm⟩
        | none, hx => cases hx
      have hi : i < zs.length := (List.getElem?_eq_some_iff.mp hz).1
      refine ⟨rfl, .int z, rfl, z, rfl, acc.map V.int, h4, ?_, ?_, ?_, ?_⟩
      · rw [List.length_map, sizeLine_eq]
        omega
      · rw [upd_ne nD]
        exact h1
      · intro c o e
        have nc : c ≠ D := ne_of_none e hD
        rw [upd_ne nc]
        exact h2 c o e
      · refine ⟨acc ++ [if z < 0 then -z else z], by simp [h3], ?_⟩
        rw [upd_same]
        simp
    · rintro H' ⟨h1, h2, acc, h3, h4⟩
      refine ⟨few_line (by simp), fun b hb => ?_⟩
      have nb : b ≠ D := fun e => by
        rw [e, h4] at hb
        cases hb
      refine hQ b _ ((sp.trans h2).trans (same_new hb)) ((sp.trans h2).free hb) ⟨D, 0, 1234567891, 0, acc, upd_same, ?_, by decide, by decide, by decide, ?_⟩
      · rw [upd_ne (Ne.symm nb)]
        exact h4
      · rw [List.length_map] at h3
        omega
/-- one of the things -/
def spSome (K : PySem.W.Frag) : Sp := fun vs H Q _ => ∃ (b t : Addr) (xs : List V), vs = [.ref b, .ref t] ∧ IsBag H b ∧ (SqL K H t xs ∨ SqT K H t xs) ∧ t ≠ b ∧ 0 < xs.length ∧ xs.length ≤ 100000 ∧
  ∀ v H', v ∈ xs → Kp b H H' → IsBag H' b → Q v H'
theorem Kp.seqs {b t : Addr} {H H' : Hp} {xs : List V} (h : Kp b H H') (n : t ≠ b) (hs : SqL K H t xs ∨ SqT K H t xs) : SqL K H' t xs ∨ SqT K H' t xs := by
  rcases hs with ((e | ⟨o, e⟩) | e) | ((e | ⟨o, e⟩) | e)
  · exact .inl (.inl (.inl (h t _ n e)))
  · exact .inl (.inl (.inr ⟨o, h t _ n e⟩))
  · exact .inl (.inr e)
  · exact .inr (.inl (.inl (h t _ n e)))
  · exact .inr (.inl (.inr ⟨o, h t _ n e⟩))
  · exact .inr (.inr e)
theorem ok_some (F : FnP K "_law_some" 19 f fd) (FT : FnP K "_law_take" 18 fT fdT) (gT : mg "_law_take" = some (.ref fT)) (mi : mg "int" = none) (ml : mg "len" = none) : FnOk P w K mg base CX0 2 f fd ["bag", "things"] (spSome K) := by
  have GT : FnOk P w K mg base CX0 1 fT fdT ["bag", "many"] spTake := ok_take FT mi
  have bT : Binds K fdT ["bag", "many"] [] := FT.bindsN fun _ _ _ _ _ _ us hl => match us, hl with | [_, _], _ => rfl
  refine F.ok scSome (fun vs H Q E h => ?_) (fun cd A outer s H vs Q E hr h => ?_)
  · obtain ⟨b, t, xs, rfl, _⟩ := h
    rfl
  · obtain ⟨b, t, xs, rfl, hB, hs, nt, h0, h1, hQ⟩ := h
    refine ⟨_, PSs.nox (pss_one (ps_ret (pe_ix ix_seq (pv 1) (pe_call GT hr (by rfl) gT FT.kp bT .nil pass0 (pa_cons (pv 0) (pa_cons (pe_callB call_len_seq (by rfl) ml PySem.boot_len (pa_cons (pv 1) pa_nil)) pa_nil))) (fun _ _ => rfl)))), ?_⟩
    refine ⟨.ref t, rfl, .ref b, rfl, .ref t, rfl, t, xs, rfl, hs, b, (xs.length : Int), rfl, hB, by omega, by omega, fun v H1 v0 v1 k1 b1 => ?_⟩
    obtain ⟨i, rfl⟩ : ∃ i : Nat, v = (i : Int) := ⟨v.toNat, by omega⟩
    have hi : i < xs.length := by omega
    have e : atI xs (i : Int) = some xs[i] := atI_nat (List.getElem?_eq_getElem hi)
    have q := hQ xs[i] H1 (List.getElem_mem hi) k1 b1
    rcases Kp.seqs k1 nt hs with z | z
    · exact .inl ⟨t, xs, _, _, rfl, rfl, z, e, q⟩
    · exact .inr (.inl ⟨t, xs, _, _, rfl, rfl, z, e, q⟩)
/-- the values that are drawn -/
def odd1 : List PyData := [.none, .bool true, .bool false, .int 0, .int 1, .int (-1), .int (10 ^ (39 : Int).toNat), .str "", .str "a", .str "m", .str "by", .str "A", .str "2a", .str "a b", .str "sea", .tuple [], .list [], .dict [], .tuple [.str "a"]]
def odd2 : List PyData := [.list [.str "a"], .tuple [.str "a", .str "b"], .tuple [.tuple [.str "a"]], .dict [(.str "a", .int 1)], .tuple [.tuple [], .tuple []], .tuple [.tuple [], .tuple [], .tuple [], .tuple [], .tuple []], .tuple [.int 0], .dict [(.str "c0", .tuple [.str "a"])]]
theorem odd_all : ∀ d ∈ odd1 ++ odd2, d.showable = true ∧ d.shown.length ≤ 100 ∧ d.depth ≤ 3 := by decide +kernel
/-- a value of any kind -/
def Odd (K : PySem.W.Frag) (b : Addr) (H : Hp) (v : V) : Prop := ∃ d : PyData, d ∈ odd1 ++ odd2 ∧ DB K b H v d
def spOdd (K : PySem.W.Frag) : Sp := fun vs H Q _ => ∃ b : Addr, vs = [.ref b] ∧ IsBag H b ∧ ∀ v H', Odd K b H' v → Kp b H H' → IsBag H' b → Q v H'
theorem scOdd : FnScope ["bag", "some"] ["bag"] (defScope (topS 21)) := ⟨rfl, rfl, rfl, by decide +kernel, rfl, by decide +kernel, by decide +kernel⟩
theorem ok_odd {fS : Addr} {fdS : FuncData} (F : FnP K "_law_odd" 21 f fd) (FS : FnP K "_law_some" 19 fS fdS) (gS : mg "_law_some" = some (.ref fS)) (FT : FnP K "_law_take" 18 fT fdT) (gT : mg "_law_take" = some (.ref fT)) (mi : mg "int" = none) (ml : mg "len" = none) :
    FnOk P w K mg base CX0 3 f fd ["bag"] (spOdd K) := by
  have GS : FnOk P w K mg base CX0 2 fS fdS ["bag", "things"] (spSome K) := ok_some FS FT gT mi ml
  have bS : Binds K fdS ["bag", "things"] [] := FS.bindsN fun _ _ _ _ _ _ us hl => match us, hl with | [_, _], _ => rfl
  refine F.ok scOdd (fun vs H Q E h => ?_) (fun cd A outer s H vs Q E hr h => ?_)
  · obtain ⟨b, rfl, _⟩ := h
    rfl
  · obtain ⟨b, rfl, hB, hQ⟩ := h
    refine ⟨_, PSs.nox (pss_cons (ps_set (i := 1) scOdd.nd rfl (.inl rfl) (pe_lst (t := tDats K odd1) (by
        repeat' first | exact pd_nil | exact pd_non | exact pd_bl | exact pd_int | exact pd_neg | exact pd_pow | exact pd_str | exact pd_dnil | refine pd_cons ?_ ?_ | refine pd_tup ?_ | refine pd_lst ?_)))
      (pss_cons (ps_expr (pe_bm PySem.F.plainAttrs_list PySem.F.slot_list_extend PySem.F.type_list_extend mt_extend (pv 1) (pa_cons (pe_lst (t := tDats K odd2) (by
        repeat' first | exact pd_nil | exact pd_int | exact pd_str | refine pd_done ?_ | refine pd_cons ?_ ?_ | refine pd_tup ?_ | refine pd_lst ?_)) pa_nil)))
      (pss_one (ps_ret (pe_call GS hr (by rfl) gS FS.kp bS .nil pass0 (pa_cons (pv 0) (pa_cons (pv 1) pa_nil))))))), ?_⟩
    obtain ⟨xs0, hb0⟩ := hB.top
    have nb : H b ≠ none := fun z => by
      rw [hb0] at z
      cases z
    have hb1 : ∀ a, offB b a = true → H a ≠ none := fun a z => by
      have e : a = b := of_decide_eq_true z
      rw [e]
      exact nb
    refine ⟨offB b, hb1, fun vs H1 s1 d1 => ⟨few_line (by have := d1.length; simp only [odd1, List.length_cons, List.length_nil] at this; omega), fun p hp => ?_⟩⟩
    have nb1 := some_of nb s1
    have npb : p ≠ b := by
      rintro rfl
      exact nb1 hp
    refine ⟨.ref p, rfl, .inl ⟨rfl, _, .inl (.inl upd_same)⟩, fun a => offB b a || offB p a, fun a z => ?_, fun ws H2 s3 d2 => ⟨few_line (by have := d2.length; simp only [odd2, List.length_cons, List.length_nil] at this; omega), fun p2 hp2 => ?_⟩⟩
    · rcases (Bool.or_eq_true _ _).mp z with z | z
      · exact some_of (hb1 a z) (s1.trans (same_new hp))
      · have e : a = p := of_decide_eq_true z
        rw [e, upd_same]
        exact fun z => nomatch z
    have e1 : H2 p = some (.lst vs) := s3 _ _ upd_same
    have n2 : p ≠ p2 := ne_of_none e1 hp2
    have l1 := d1.length
    have l2 := d2.length
    simp only [odd1, odd2, List.length_cons, List.length_nil] at l1 l2
    refine ⟨p, p2, vs, ws, rfl, rfl, by rw [upd_ne n2]; exact e1, upd_same, few_line (by omega), ?_⟩
    -- the list as it is then
    have e3 : ∀ a o, a ≠ p → H2 a = some o → (upd (upd H2 p2 (.lst ws)) p (.lst (vs ++ ws))) a = some o := fun a o n z => by
      rw [upd_ne n]
      exact same_new hp2 a o z
    have k1 : Same H1 (upd (upd H2 p2 (.lst ws)) p (.lst (vs ++ ws))) := fun a o z => e3 a o (ne_of_none z hp) (s3 _ _ (same_new (o := .lst vs) hp a o z))
    have k3 : Same H (upd (upd H2 p2 (.lst ws)) p (.lst (vs ++ ws))) := s1.trans k1
    have dA : DBA K b (upd (upd H2 p2 (.lst ws)) p (.lst (vs ++ ws))) (vs ++ ws) (odd1 ++ odd2) := by
      refine (d1.mono (hid_mono k1)).append (d2.mono (hid_same (fun a z => ?_) fun a o z e => ?_))
      · exact (Bool.or_eq_false_iff.mp z).1
      · exact e3 a o (offB_ne (Bool.or_eq_false_iff.mp z).2) e
    refine ⟨.ref b, rfl, .ref p, rfl, b, p, vs ++ ws, rfl, ?_, .inl (.inl (.inl upd_same)), npb, by rw [List.length_append]; omega, by rw [List.length_append]; omega, fun v H4 hv k4 b4 => ?_⟩
    · exact hB.same k3
    · obtain ⟨d, hd, dq⟩ := dA.mem hv
      exact hQ v H4 ⟨d, hd, dq.mono (del_same_of k4)⟩ ((Same.kp k3).trans k4) b4
end
end K00

namespace K00
open PySem PySem.Spec PyProof.Rows L2 Ly
/-- the class x, its __init__ -/
abbrev cl (K : PySem.W.Frag) (x : Str) : Addr := He.ga K x
abbrev ini (K : PySem.W.Frag) (x : Str) : Addr := He.ma K (He.ga K x) "__init__"
def zero4 : List Str := ["Nothing", "NoForget", "NoLaying", "Refused"]
def one9 : List (Str × Str × Str) := [("Wrong", "place", "place"), ("NoWorld", "fault", "fault"), ("NoLand", "fault", "fault"), ("NoTile", "cell", "cell"), ("NoGuide", "bar", "bar"), ("NoPick", "index", "index"), ("NoNumber", "many", "many"), ("TooMany", "most", "most"), ("NoCommand", "line", "line")]
structure Txt (K : PySem.W.Frag) (mg : Str → Option Value) : Prop where
  glo : ∀ x ∈ glos, mg x = some (.ref (He.ga K x))
  free : ∀ x ∈ frees, mg x = none
  exc : ∀ x ∈ all14, ExcT K (cl K x) (ini K x)
  exm : ∀ x ∈ all14, ∀ y ∈ all14, PySem.W.exmOne K (.ref (cl K x)) (.ref (cl K y)) = some (decide (x = y))
  exT : ∀ x ∈ all14, PySem.W.exmOne K (.ref (cl K x)) (.ref (cl K "TileError")) = some true
  kit : ∀ x ∈ all14, PySem.W.kitOne K (.ref (cl K x)) (.type "ValueError") = some true
  noat : ∀ p ∈ fieldsOf, PySem.W.findIn K (.ref (cl K p.1)) p.2 = some none
  sg : PySem.W.specialIn K (.builtin "object.__class__") "__get__" = some (some (.builtin "getset_descriptor.__get__"))
  tk : PySem.W.takesIn K (.builtin "object.__class__") = some true
  i0 : ∀ x ∈ zero4, ∃ fd, Binds K fd ["self"] [] ∧ ∀ (P : Program) (w : World) (base : Heap), FnOk P w K mg base CX0 1 (ini K x) fd ["self"] spI0
  i1 : ∀ p ∈ one9, ∃ fd, Binds K fd ["self", p.2.2] [] ∧ ∀ (P : Program) (w : World) (base : Heap), FnOk P w K mg base CX0 1 (ini K p.1) fd ["self", p.2.2] (spI1 K p.2.1)
  i2 : ∃ fd, Binds K fd ["self", "line", "column"] [] ∧ ∀ (P : Program) (w : World) (base : Heap), FnOk P w K mg base CX0 1 (ini K "NoText") fd ["self", "line", "column"] (spI2 K "line" "column")
  fun_ : ∀ x i, (x, i) ∈ ([("_law_bag", 17), ("_law_take", 18), ("_law_some", 19), ("_law_alike", 20), ("_law_odd", 21), ("_law_raise_plain", 22), ("_law_raise", 23), ("_law_met", 24), ("_law_met_back", 25), ("_law_is_tile_error", 26), ("law", 27)] : List (Str × Nat)) →
    ∃ fd, FnP K x i (He.ga K x) fd
section
variable {K : PySem.W.Frag} {mg : Str → Option Value}
theorem init0 {c q : Str} {i j : Nat} {p : Pos} (h : ∃ fd, FunD K "__init__" q (defArgs (inClass (topS i) j)) (defBody (inClass (topS i) j)) (defScope (inClass (topS i) j)) [] [] (ini K c) fd) (hb : defBody (inClass (topS i) j) = [.Pass p])
    (S : FnScope ["self"] ["self"] (defScope (inClass (topS i) j))) (hB : ∀ (kV doc pm : Value) (an : Option Addr) (cdv ct : Value) (us : List Value), us.length = (["self"] : List Str).length →
      bindArgs (PySem.W.fnOf "__init__" q (defArgs (inClass (topS i) j)) (defBody (inClass (topS i) j)) (defScope (inClass (topS i) j)) .none kV doc pm an cdv ct) ⟨us, []⟩ = pure ((["self"] : List Str).zip us)) :
    ∃ fd, Binds K fd ["self"] [] ∧ ∀ (P : Program) (w : World) (base : Heap), FnOk P w K mg base CX0 1 (ini K c) fd ["self"] spI0 := by
  obtain ⟨fd, F⟩ := h
  refine ⟨fd, F.bindsN hB, fun P w base => ?_⟩
  rw [hb] at F
  exact ok_i0 F S
theorem init1 {c q g y : Str} {i j : Nat} {p1 p2 p3 p4 : Pos} (h : ∃ fd, FunD K "__init__" q (defArgs (inClass (topS i) j)) (defBody (inClass (topS i) j)) (defScope (inClass (topS i) j)) [] [] (ini K c) fd)
    (hb : defBody (inClass (topS i) j) = [.Assign [.Attribute (.Name "self" p1) g p2] (.Name y p3) p4]) (S : FnScope ["self", y] ["self", y] (defScope (inClass (topS i) j)))
    (hl : (defScope (inClass (topS i) j)).names.lookup y = some .local) (hs : (defScope (inClass (topS i) j)).names.lookup ("self" : Str) = some .local) (h1 : (y == ("__debug__" : Str)) = false) (h2 : (y == ("__classdict__" : Str)) = false)
    (hB : ∀ (kV doc pm : Value) (an : Option Addr) (cdv ct : Value) (us : List Value), us.length = (["self", y] : List Str).length →
      bindArgs (PySem.W.fnOf "__init__" q (defArgs (inClass (topS i) j)) (defBody (inClass (topS i) j)) (defScope (inClass (topS i) j)) .none kV doc pm an cdv ct) ⟨us, []⟩ = pure ((["self", y] : List Str).zip us)) :
    ∃ fd, Binds K fd ["self", y] [] ∧ ∀ (P : Program) (w : World) (base : Heap), FnOk P w K mg base CX0 1 (ini K c) fd ["self", y] (spI1 K g) := by
  obtain ⟨fd, F⟩ := h
  refine ⟨fd, F.bindsN hB, fun P w base => ?_⟩
  rw [hb] at F
  exact ok_i1 F S hl hs h1 h2
theorem init2 {c q g k y z : Str} {i j : Nat} {p1 p2 p3 p4 p5 p6 p7 p8 : Pos} (h : ∃ fd, FunD K "__init__" q (defArgs (inClass (topS i) j)) (defBody (inClass (topS i) j)) (defScope (inClass (topS i) j)) [] [] (ini K c) fd)
    (hb : defBody (inClass (topS i) j) = [.Assign [.Attribute (.Name "self" p1) g p2] (.Name y p3) p4, .Assign [.Attribute (.Name "self" p5) k p6] (.Name z p7) p8]) (S : FnScope ["self", y, z] ["self", y, z] (defScope (inClass (topS i) j)))
    (hs : (defScope (inClass (topS i) j)).names.lookup ("self" : Str) = some .local) (hl : (defScope (inClass (topS i) j)).names.lookup y = some .local) (hl2 : (defScope (inClass (topS i) j)).names.lookup z = some .local)
    (h1 : (y == ("__debug__" : Str)) = false) (h2 : (y == ("__classdict__" : Str)) = false) (h3 : (z == ("__debug__" : Str)) = false) (h4 : (z == ("__classdict__" : Str)) = false)
    (hB : ∀ (kV doc pm : Value) (an : Option Addr) (cdv ct : Value) (us : List Value), us.length = (["self", y, z] : List Str).length →
      bindArgs (PySem.W.fnOf "__init__" q (defArgs (inClass (topS i) j)) (defBody (inClass (topS i) j)) (defScope (inClass (topS i) j)) .none kV doc pm an cdv ct) ⟨us, []⟩ = pure ((["self", y, z] : List Str).zip us)) :
    ∃ fd, Binds K fd ["self", y, z] [] ∧ ∀ (P : Program) (w : World) (base : Heap), FnOk P w K mg base CX0 1 (ini K c) fd ["self", y, z] (spI2 K g k) := by
  obtain ⟨fd, F⟩ := h
  refine ⟨fd, F.bindsN hB, fun P w base => ?_⟩
  rw [hb] at F
  exact ok_i2 F S hs hl hl2 h1 h2 h3 h4
theorem txt_of {h : Heap} (X : K.In h) (G : h.Ns mainGlobals mg) (c : SaysS fa fn ex K) : Txt K mg := by
  have E := c.more
  unfold ex at E
  simp only [Bool.and_eq_true, List.all_eq_true, decide_eq_true_eq] at E
  obtain ⟨E1, E2, E3, E4⟩ := E
  refine ⟨fun x hx => ?_, fun x hx => ?_, fun x hx => excB_ok (E1 x hx).1, fun x hx y hy => (E1 x hx).2.2.2 y hy, fun x hx => (E1 x hx).2.1, fun x hx => (E1 x hx).2.2.1, E2, E3, E4, ?_, ?_, ?_, ?_⟩
  · exact He.glo_ok X G (c.d.facts (List.mem_append_left _ (List.mem_map_of_mem hx)))
  · exact He.free_ok X G (c.d.facts (List.mem_append_right _ (List.mem_map_of_mem hx)))
  · intro x hx
    simp only [zero4, List.mem_cons, List.not_mem_nil, or_false] at hx
    rcases hx with rfl | rfl | rfl | rfl
    · exact init0 (i := 15) (j := 0) (c.d.def_ 24 (d := dM "Nothing" "Nothing.__init__" 15 0) rfl) rfl ⟨rfl, rfl, rfl, by decide +kernel, rfl, by decide +kernel, by decide +kernel⟩ (fun _ _ _ _ _ _ us hl => match us, hl with | [_], _ => rfl)
    · exact init0 (i := 13) (j := 0) (c.d.def_ 22 (d := dM "NoForget" "NoForget.__init__" 13 0) rfl) rfl ⟨rfl, rfl, rfl, by decide +kernel, rfl, by decide +kernel, by decide +kernel⟩ (fun _ _ _ _ _ _ us hl => match us, hl with | [_], _ => rfl)
    · exact init0 (i := 7) (j := 0) (c.d.def_ 16 (d := dM "NoLaying" "NoLaying.__init__" 7 0) rfl) rfl ⟨rfl, rfl, rfl, by decide +kernel, rfl, by decide +kernel, by decide +kernel⟩ (fun _ _ _ _ _ _ us hl => match us, hl with | [_], _ => rfl)
    · exact init0 (i := 6) (j := 0) (c.d.def_ 15 (d := dM "Refused" "Refused.__init__" 6 0) rfl) rfl ⟨rfl, rfl, rfl, by decide +kernel, rfl, by decide +kernel, by decide +kernel⟩ (fun _ _ _ _ _ _ us hl => match us, hl with | [_], _ => rfl)
  · intro p hp
    simp only [one9, List.mem_cons, List.not_mem_nil, or_false] at hp
    rcases hp with rfl | rfl | rfl | rfl | rfl | rfl | rfl | rfl | rfl
    · exact init1 (i := 2) (j := 0) (c.d.def_ 11 (d := dM "Wrong" "Wrong.__init__" 2 0) rfl) rfl ⟨rfl, rfl, rfl, by decide +kernel, rfl, by decide +kernel, by decide +kernel⟩ rfl rfl (by decide) (by decide) (fun _ _ _ _ _ _ us hl => match us, hl with | [_, _], _ => rfl)
    · exact init1 (i := 4) (j := 0) (c.d.def_ 13 (d := dM "NoWorld" "NoWorld.__init__" 4 0) rfl) rfl ⟨rfl, rfl, rfl, by decide +kernel, rfl, by decide +kernel, by decide +kernel⟩ rfl rfl (by decide) (by decide) (fun _ _ _ _ _ _ us hl => match us, hl with | [_, _], _ => rfl)
    · exact init1 (i := 5) (j := 0) (c.d.def_ 14 (d := dM "NoLand" "NoLand.__init__" 5 0) rfl) rfl ⟨rfl, rfl, rfl, by decide +kernel, rfl, by decide +kernel, by decide +kernel⟩ rfl rfl (by decide) (by decide) (fun _ _ _ _ _ _ us hl => match us, hl with | [_, _], _ => rfl)
    · exact init1 (i := 8) (j := 0) (c.d.def_ 17 (d := dM "NoTile" "NoTile.__init__" 8 0) rfl) rfl ⟨rfl, rfl, rfl, by decide +kernel, rfl, by decide +kernel, by decide +kernel⟩ rfl rfl (by decide) (by decide) (fun _ _ _ _ _ _ us hl => match us, hl with | [_, _], _ => rfl)
    · exact init1 (i := 9) (j := 0) (c.d.def_ 18 (d := dM "NoGuide" "NoGuide.__init__" 9 0) rfl) rfl ⟨rfl, rfl, rfl, by decide +kernel, rfl, by decide +kernel, by decide +kernel⟩ rfl rfl (by decide) (by decide) (fun _ _ _ _ _ _ us hl => match us, hl with | [_, _], _ => rfl)
    · exact init1 (i := 10) (j := 0) (c.d.def_ 19 (d := dM "NoPick" "NoPick.__init__" 10 0) rfl) rfl ⟨rfl, rfl, rfl, by decide +kernel, rfl, by decide +kernel, by decide +kernel⟩ rfl rfl (by decide) (by decide) (fun _ _ _ _ _ _ us hl => match us, hl with | [_, _], _ => rfl)
    · exact init1 (i := 11) (j := 0) (c.d.def_ 20 (d := dM "NoNumber" "NoNumber.__init__" 11 0) rfl) rfl ⟨rfl, rfl, rfl, by decide +kernel, rfl, by decide +kernel, by decide +kernel⟩ rfl rfl (by decide) (by decide) (fun _ _ _ _ _ _ us hl => match us, hl with | [_, _], _ => rfl)
    · exact init1 (i := 12) (j := 0) (c.d.def_ 21 (d := dM "TooMany" "TooMany.__init__" 12 0) rfl) rfl ⟨rfl, rfl, rfl, by decide +kernel, rfl, by decide +kernel, by decide +kernel⟩ rfl rfl (by decide) (by decide) (fun _ _ _ _ _ _ us hl => match us, hl with | [_, _], _ => rfl)
    · exact init1 (i := 14) (j := 0) (c.d.def_ 23 (d := dM "NoCommand" "NoCommand.__init__" 14 0) rfl) rfl ⟨rfl, rfl, rfl, by decide +kernel, rfl, by decide +kernel, by decide +kernel⟩ rfl rfl (by decide) (by decide) (fun _ _ _ _ _ _ us hl => match us, hl with | [_, _], _ => rfl)
  · exact init2 (i := 3) (j := 0) (c.d.def_ 12 (d := dM "NoText" "NoText.__init__" 3 0) rfl) rfl ⟨rfl, rfl, rfl, by decide +kernel, rfl, by decide +kernel, by decide +kernel⟩ rfl rfl rfl (by decide) (by decide) (by decide) (by decide) (fun _ _ _ _ _ _ us hl => match us, hl with | [_, _, _], _ => rfl)
  · intro x i hx
    simp only [List.mem_cons, List.not_mem_nil, or_false, Prod.mk.injEq] at hx
    rcases hx with ⟨rfl, rfl⟩ | ⟨rfl, rfl⟩ | ⟨rfl, rfl⟩ | ⟨rfl, rfl⟩ | ⟨rfl, rfl⟩ | ⟨rfl, rfl⟩ | ⟨rfl, rfl⟩ | ⟨rfl, rfl⟩ | ⟨rfl, rfl⟩ | ⟨rfl, rfl⟩ | ⟨rfl, rfl⟩
    · exact c.d.def_ 0 (d := dG "_law_bag" 17) rfl
    · exact c.d.def_ 1 (d := dG "_law_take" 18) rfl
    · exact c.d.def_ 2 (d := dG "_law_some" 19) rfl
    · exact c.d.def_ 3 (d := dG "_law_alike" 20) rfl
    · exact c.d.def_ 4 (d := dG "_law_odd" 21) rfl
    · exact c.d.def_ 5 (d := dG "_law_raise_plain" 22) rfl
    · exact c.d.def_ 6 (d := dG "_law_raise" 23) rfl
    · exact c.d.def_ 7 (d := dG "_law_met" 24) rfl
    · exact c.d.def_ 8 (d := dG "_law_met_back" 25) rfl
    · exact c.d.def_ 9 (d := dG "_law_is_tile_error" 26) rfl
    · exact c.d.def_ 10 (d := dG "law" 27) rfl
end
end K00

namespace K00
open PySem PySem.Spec PyProof.Rows L2 Ly
def fl1 : List (Str × Str) := one9.map fun p => (p.1, p.2.1)
/-- the fields that an error of this name is made with -/
def flds (nm : Str) (x y : V) : List (Str × V) := if nm = "NoText" then [("column", y), ("line", x)] else match fl1.lookup nm with
  | some g => [(g, x)]
  | none => []
theorem flds_zero : ∀ nm ∈ zero4, ∀ x y, flds nm x y = [] := by
  intro nm h x y
  simp only [zero4, List.mem_cons, List.not_mem_nil, or_false] at h
  rcases h with rfl | rfl | rfl | rfl <;> rfl
theorem flds_one : ∀ p ∈ one9, ∀ x y, flds p.1 x y = [(p.2.1, x)] := by
  intro p h x y
  simp only [one9, List.mem_cons, List.not_mem_nil, or_false] at h
  rcases h with rfl | rfl | rfl | rfl | rfl | rfl | rfl | rfl | rfl <;> rfl
theorem scPlain : FnScope ["name"] ["name"] (defScope (topS 22)) := ⟨rfl, rfl, rfl, by decide +kernel, rfl, by decide +kernel, by decide +kernel⟩
theorem scRaise : FnScope ["name", "one", "other"] ["name", "one", "other"] (defScope (topS 23)) := ⟨rfl, rfl, rfl, by decide +kernel, rfl, by decide +kernel, by decide +kernel⟩
theorem str_eq {x y : Str} (h : decide (V.str x = V.str y) = true) : x = y := V.str.inj (of_decide_eq_true h)
theorem str_ne {x y : Str} (h : ¬ decide (V.str x = V.str y) = true) : x ≠ y := fun e => h (decide_eq_true (congrArg V.str e))
section
variable {P : Program} {w : World} {K : PySem.W.Frag} {mg : Str → Option Value} {base : Heap} {f : Addr} {fd : FuncData}
def spPlain (K : PySem.W.Frag) : Sp := fun vs H _ E => ∃ nm : Str, vs = [.str nm] ∧ nm ∈ zero4 ∧ ∀ H', Made H [] none H' → E (.ref (cl K nm)) none H'
theorem ok_plain (F : FnP K "_law_raise_plain" 22 f fd) (T : Txt K mg) : FnOk P w K mg base (L2.CX P w) 3 f fd ["name"] (spPlain K) := by
  refine F.ok scPlain (fun vs H Q E h => ?_) (fun cd A outer s H vs Q E hr h => ?_)
  · obtain ⟨nm, rfl, _⟩ := h
    rfl
  · obtain ⟨nm, rfl, hm, hE⟩ := h
    obtain ⟨fd1, b1, F1⟩ := T.i0 "Nothing" (by decide)
    obtain ⟨fd2, b2, F2⟩ := T.i0 "NoForget" (by decide)
    obtain ⟨fd3, b3, F3⟩ := T.i0 "NoLaying" (by decide)
    obtain ⟨fd4, b4, F4⟩ := T.i0 "Refused" (by decide)
    refine ⟨_, pss_cons (ps_if (pt_cmpR op_eq (pv 0) pe_str (nomark _)) (pss_one (ps_raise rfl (takes_of rfl rfl rfl rfl) (pmk_bare (T.exc "Nothing" (by decide)) (F1 P w base) hr b1 pass0 rfl (T.glo "Nothing" (by decide))))) pss_nil)
      (pss_cons (ps_if (pt_cmpR op_eq (pv 0) pe_str (nomark _)) (pss_one (ps_raise rfl (takes_of rfl rfl rfl rfl) (pmk_bare (T.exc "NoForget" (by decide)) (F2 P w base) hr b2 pass0 rfl (T.glo "NoForget" (by decide))))) pss_nil)
      (pss_cons (ps_if (pt_cmpR op_eq (pv 0) pe_str (nomark _)) (pss_one (ps_raise rfl (takes_of rfl rfl rfl rfl) (pmk_bare (T.exc "NoLaying" (by decide)) (F3 P w base) hr b3 pass0 rfl (T.glo "NoLaying" (by decide))))) pss_nil)
      (pss_one (ps_raise rfl (takes_of rfl rfl rfl rfl) (pmk_bare (T.exc "Refused" (by decide)) (F4 P w base) hr b4 pass0 rfl (T.glo "Refused" (by decide))))))), ?_⟩
    refine ⟨_, rfl, rfl, _, rfl, ite2 (fun h => ?_) (fun h1 => ?_)⟩
    · have e := str_eq h
      subst e
      exact made0 (σ := []) hE
    refine ⟨_, rfl, rfl, _, rfl, ite2 (fun h => ?_) (fun h2 => ?_)⟩
    · have e := str_eq h
      subst e
      exact made0 (σ := []) hE
    refine ⟨_, rfl, rfl, _, rfl, ite2 (fun h => ?_) (fun h3 => ?_)⟩
    · have e := str_eq h
      subst e
      exact made0 (σ := []) hE
    simp only [zero4, List.mem_cons, List.not_mem_nil, or_false] at hm
    rcases hm with e | e | e | e
    · exact absurd e (str_ne h1)
    · exact absurd e (str_ne h2)
    · exact absurd e (str_ne h3)
    · subst e
      exact made0 (σ := []) hE
theorem inV_str {nm : Str} {l : List Str} : inV (.str nm) (l.map V.str) = decide (nm ∈ l) := by
  unfold inV
  induction l with
  | nil => rfl
  | cons a l ih =>
    rw [List.map_cons, List.any_cons, ih]
    by_cases e : a = nm
    · subst e
      simp [eqV]
    · have e' : ¬ nm = a := fun z => e z.symm
      simp [eqV, e, e']
def spRaise (K : PySem.W.Frag) : Sp := fun vs H _ E => ∃ (nm : Str) (x y : V), vs = [.str nm, x, y] ∧ nm ∈ all14 ∧ ∀ d H', Made H (flds nm x y) d H' → E (.ref (cl K nm)) d H'
theorem made_from {H H1 H' : Hp} {fs : List (Str × V)} {d : Option Addr} (s : Same H H1) (h : Made H1 fs d H') : Made H fs d H' := by
  refine ⟨s.trans h.1, ?_⟩
  rcases h.2 with ⟨e1, e2⟩ | ⟨dd, e1, e2, e3⟩
  · exact .inl ⟨e1, e2⟩
  · exact .inr ⟨dd, e1, s.free e2, e3⟩
theorem ok_raise {fP : Addr} {fdP : FuncData} (F : FnP K "_law_raise" 23 f fd) (FP : FnP K "_law_raise_plain" 22 fP fdP) (gP : mg "_law_raise_plain" = some (.ref fP)) (T : Txt K mg) :
    FnOk P w K mg base (L2.CX P w) 4 f fd ["name", "one", "other"] (spRaise K) := by
  have GP : FnOk P w K mg base (L2.CX P w) 3 fP fdP ["name"] (spPlain K) := ok_plain FP T
  have bP : Binds K fdP ["name"] [] := FP.bindsN fun _ _ _ _ _ _ us hl => match us, hl with | [_], _ => rfl
  refine F.ok scRaise (fun vs H Q E h => ?_) (fun cd A outer s H vs Q E hr h => ?_)
  · obtain ⟨nm, x, y, rfl, _⟩ := h
    rfl
  · obtain ⟨nm, x, y, rfl, hm, hE⟩ := h
    have hr2 : Room 2 _ := hr.mono (by decide)
    obtain ⟨fd0, b0, F0⟩ := T.i1 ("NoCommand", "line", "line") (by decide)
    obtain ⟨fd1, b1, F1⟩ := T.i1 ("NoGuide", "bar", "bar") (by decide)
    obtain ⟨fd2, b2, F2⟩ := T.i1 ("NoLand", "fault", "fault") (by decide)
    obtain ⟨fd3, b3, F3⟩ := T.i1 ("NoNumber", "many", "many") (by decide)
    obtain ⟨fd4, b4, F4⟩ := T.i1 ("NoPick", "index", "index") (by decide)
    obtain ⟨fd5, b5, F5⟩ := T.i2
    obtain ⟨fd6, b6, F6⟩ := T.i1 ("NoTile", "cell", "cell") (by decide)
    obtain ⟨fd7, b7, F7⟩ := T.i1 ("NoWorld", "fault", "fault") (by decide)
    obtain ⟨fd8, b8, F8⟩ := T.i1 ("TooMany", "most", "most") (by decide)
    obtain ⟨fd9, b9, F9⟩ := T.i1 ("Wrong", "place", "place") (by decide)
    refine ⟨_, pss_cons (ps_if (pt_cmpR op_in_seq (pv 0) (pe_tup (pa_cons pe_str (pa_cons pe_str (pa_cons pe_str (pa_cons pe_str pa_nil))))) (by rfl))
        (pss_one (ps_expr (pe_call GP hr (by rfl) gP FP.kp bP .nil (E := E) (passes_call (takes_of rfl rfl rfl rfl) fun _ _ _ _ z => z) (by exact (pa_cons (pv 0) pa_nil))))) pss_nil)
      (pss_cons (ps_if (pt_cmpR op_eq (pv 0) pe_str (nomark _)) (pss_one (ps_raise rfl (takes_of rfl rfl rfl rfl) (pmk_oex (T.exc "NoCommand" (by decide)).oex (T.exc "NoCommand" (by decide)).init (T.exc "NoCommand" (by decide)).tI (F0 P w base) hr2 b0 .nil pass0 rfl (T.glo "NoCommand" (by decide)) (by exact (pa_cons (pv 1) pa_nil))))) pss_nil)
      (pss_cons (ps_if (pt_cmpR op_eq (pv 0) pe_str (nomark _)) (pss_one (ps_raise rfl (takes_of rfl rfl rfl rfl) (pmk_oex (T.exc "NoGuide" (by decide)).oex (T.exc "NoGuide" (by decide)).init (T.exc "NoGuide" (by decide)).tI (F1 P w base) hr2 b1 .nil pass0 rfl (T.glo "NoGuide" (by decide)) (by exact (pa_cons (pv 1) pa_nil))))) pss_nil)
      (pss_cons (ps_if (pt_cmpR op_eq (pv 0) pe_str (nomark _)) (pss_one (ps_raise rfl (takes_of rfl rfl rfl rfl) (pmk_oex (T.exc "NoLand" (by decide)).oex (T.exc "NoLand" (by decide)).init (T.exc "NoLand" (by decide)).tI (F2 P w base) hr2 b2 .nil pass0 rfl (T.glo "NoLand" (by decide)) (by exact (pa_cons (pv 1) pa_nil))))) pss_nil)
      (pss_cons (ps_if (pt_cmpR op_eq (pv 0) pe_str (nomark _)) (pss_one (ps_raise rfl (takes_of rfl rfl rfl rfl) (pmk_oex (T.exc "NoNumber" (by decide)).oex (T.exc "NoNumber" (by decide)).init (T.exc "NoNumber" (by decide)).tI (F3 P w base) hr2 b3 .nil pass0 rfl (T.glo "NoNumber" (by decide)) (by exact (pa_cons (pv 1) pa_nil))))) pss_nil)
      (pss_cons (ps_if (pt_cmpR op_eq (pv 0) pe_str (nomark _)) (pss_one (ps_raise rfl (takes_of rfl rfl rfl rfl) (pmk_oex (T.exc "NoPick" (by decide)).oex (T.exc "NoPick" (by decide)).init (T.exc "NoPick" (by decide)).tI (F4 P w base) hr2 b4 .nil pass0 rfl (T.glo "NoPick" (by decide)) (by exact (pa_cons (pv 1) pa_nil))))) pss_nil)
      (pss_cons (ps_if (pt_cmpR op_eq (pv 0) pe_str (nomark _)) (pss_one (ps_raise rfl (takes_of rfl rfl rfl rfl) (pmk_oex (T.exc "NoText" (by decide)).oex (T.exc "NoText" (by decide)).init (T.exc "NoText" (by decide)).tI (F5 P w base) hr2 b5 .nil pass0 rfl (T.glo "NoText" (by decide)) (by exact (pa_cons (pv 1) (pa_cons (pv 2) pa_nil)))))) pss_nil)
      (pss_cons (ps_if (pt_cmpR op_eq (pv 0) pe_str (nomark _)) (pss_one (ps_raise rfl (takes_of rfl rfl rfl rfl) (pmk_oex (T.exc "NoTile" (by decide)).oex (T.exc "NoTile" (by decide)).init (T.exc "NoTile" (by decide)).tI (F6 P w base) hr2 b6 .nil pass0 rfl (T.glo "NoTile" (by decide)) (by exact (pa_cons (pv 1) pa_nil))))) pss_nil)
      (pss_cons (ps_if (pt_cmpR op_eq (pv 0) pe_str (nomark _)) (pss_one (ps_raise rfl (takes_of rfl rfl rfl rfl) (pmk_oex (T.exc "NoWorld" (by decide)).oex (T.exc "NoWorld" (by decide)).init (T.exc "NoWorld" (by decide)).tI (F7 P w base) hr2 b7 .nil pass0 rfl (T.glo "NoWorld" (by decide)) (by exact (pa_cons (pv 1) pa_nil))))) pss_nil)
      (pss_cons (ps_if (pt_cmpR op_eq (pv 0) pe_str (nomark _)) (pss_one (ps_raise rfl (takes_of rfl rfl rfl rfl) (pmk_oex (T.exc "TooMany" (by decide)).oex (T.exc "TooMany" (by decide)).init (T.exc "TooMany" (by decide)).tI (F8 P w base) hr2 b8 .nil pass0 rfl (T.glo "TooMany" (by decide)) (by exact (pa_cons (pv 1) pa_nil))))) pss_nil)
      (pss_one (ps_raise rfl (takes_of rfl rfl rfl rfl) (pmk_oex (T.exc "Wrong" (by decide)).oex (T.exc "Wrong" (by decide)).init (T.exc "Wrong" (by decide)).tI (F9 P w base) hr2 b9 .nil pass0 rfl (T.glo "Wrong" (by decide)) (by exact (pa_cons (pv 1) pa_nil)))))))))))))), ?_⟩
    refine ⟨_, rfl, few_line (by simp), fun p hp => ?_⟩
    have s1 : Same H (upd H p (.tup [.str "Nothing", .str "NoForget", .str "NoLaying", .str "Refused"])) := same_new hp
    refine ⟨p, _, rfl, .inr (.inl (.inl upd_same)), rfl, rfl, _, rfl, ite2 (fun h => ?_) (fun h0 => ?_)⟩
    · have hz : nm ∈ zero4 := by
        have e : inV (.str nm) (zero4.map V.str) = true := h
        rw [inV_str] at e
        exact of_decide_eq_true e
      refine ⟨_, rfl, nm, rfl, hz, fun H' hM => ?_⟩
      have q := hE none H'
      rw [flds_zero nm hz] at q
      exact q (made_from s1 hM)
    have n0 : nm ∉ zero4 := fun hz => h0 (show inV (.str nm) (zero4.map V.str) = true from by rw [inV_str]; exact decide_eq_true hz)
    have one : ∀ r ∈ one9, r.1 = nm → ∀ (d : Option Addr) H', Made (upd H p (.tup [.str "Nothing", .str "NoForget", .str "NoLaying", .str "Refused"])) [(r.2.1, x)] d H' → E (.ref (cl K nm)) d H' := by
      rintro q hq rfl d H' hM
      have z := hE d H'
      rw [flds_one q hq] at z
      exact z (made_from s1 hM)
    refine ⟨_, rfl, rfl, _, rfl, ite2 (fun h => ?_) (fun h1 => ?_)⟩
    · have e := str_eq h
      subst e
      exact made1 (T.exc "NoCommand" (by decide)).oex (T.noat ("NoCommand", "line") (by decide)) ⟨_, rfl, x, rfl, fun d H' hM => one ("NoCommand", "line", "line") (by decide) rfl d H' hM⟩ (fun R R' i ⟨v, e, r⟩ => ⟨v, e, i _ _ r⟩)
    refine ⟨_, rfl, rfl, _, rfl, ite2 (fun h => ?_) (fun h2 => ?_)⟩
    · have e := str_eq h
      subst e
      exact made1 (T.exc "NoGuide" (by decide)).oex (T.noat ("NoGuide", "bar") (by decide)) ⟨_, rfl, x, rfl, fun d H' hM => one ("NoGuide", "bar", "bar") (by decide) rfl d H' hM⟩ (fun R R' i ⟨v, e, r⟩ => ⟨v, e, i _ _ r⟩)
    refine ⟨_, rfl, rfl, _, rfl, ite2 (fun h => ?_) (fun h3 => ?_)⟩
    · have e := str_eq h
      subst e
      exact made1 (T.exc "NoLand" (by decide)).oex (T.noat ("NoLand", "fault") (by decide)) ⟨_, rfl, x, rfl, fun d H' hM => one ("NoLand", "fault", "fault") (by decide) rfl d H' hM⟩ (fun R R' i ⟨v, e, r⟩ => ⟨v, e, i _ _ r⟩)
    refine ⟨_, rfl, rfl, _, rfl, ite2 (fun h => ?_) (fun h4 => ?_)⟩
    · have e := str_eq h
      subst e
      exact made1 (T.exc "NoNumber" (by decide)).oex (T.noat ("NoNumber", "many") (by decide)) ⟨_, rfl, x, rfl, fun d H' hM => one ("NoNumber", "many", "many") (by decide) rfl d H' hM⟩ (fun R R' i ⟨v, e, r⟩ => ⟨v, e, i _ _ r⟩)
    refine ⟨_, rfl, rfl, _, rfl, ite2 (fun h => ?_) (fun h5 => ?_)⟩
    · have e := str_eq h
      subst e
      exact made1 (T.exc "NoPick" (by decide)).oex (T.noat ("NoPick", "index") (by decide)) ⟨_, rfl, x, rfl, fun d H' hM => one ("NoPick", "index", "index") (by decide) rfl d H' hM⟩ (fun R R' i ⟨v, e, r⟩ => ⟨v, e, i _ _ r⟩)
    refine ⟨_, rfl, rfl, _, rfl, ite2 (fun h => ?_) (fun h6 => ?_)⟩
    · have e := str_eq h
      subst e
      exact made2 (T.exc "NoText" (by decide)).oex (T.noat ("NoText", "line") (by decide)) (T.noat ("NoText", "column") (by decide)) ⟨_, rfl, _, rfl, x, y, rfl, fun d H' hM => hE d H' (made_from s1 hM)⟩ (fun R R' i ⟨v, e, u, e2, r⟩ => ⟨v, e, u, e2, i _ _ r⟩)
    refine ⟨_, rfl, rfl, _, rfl, ite2 (fun h => ?_) (fun h7 => ?_)⟩
    · have e := str_eq h
      subst e
      exact made1 (T.exc "NoTile" (by decide)).oex (T.noat ("NoTile", "cell") (by decide)) ⟨_, rfl, x, rfl, fun d H' hM => one ("NoTile", "cell", "cell") (by decide) rfl d H' hM⟩ (fun R R' i ⟨v, e, r⟩ => ⟨v, e, i _ _ r⟩)
    refine ⟨_, rfl, rfl, _, rfl, ite2 (fun h => ?_) (fun h8 => ?_)⟩
    · have e := str_eq h
      subst e
      exact made1 (T.exc "NoWorld" (by decide)).oex (T.noat ("NoWorld", "fault") (by decide)) ⟨_, rfl, x, rfl, fun d H' hM => one ("NoWorld", "fault", "fault") (by decide) rfl d H' hM⟩ (fun R R' i ⟨v, e, r⟩ => ⟨v, e, i _ _ r⟩)
    refine ⟨_, rfl, rfl, _, rfl, ite2 (fun h => ?_) (fun h9 => ?_)⟩
    · have e := str_eq h
      subst e
      exact made1 (T.exc "TooMany" (by decide)).oex (T.noat ("TooMany", "most") (by decide)) ⟨_, rfl, x, rfl, fun d H' hM => one ("TooMany", "most", "most") (by decide) rfl d H' hM⟩ (fun R R' i ⟨v, e, r⟩ => ⟨v, e, i _ _ r⟩)
    have e : nm = "Wrong" := by
      simp only [all14, zero4, List.mem_cons, List.not_mem_nil, or_false, not_or] at hm n0
      obtain ⟨n01, n02, n03, n04⟩ := n0
      rcases hm with e | e | e | e | e | e | e | e | e | e | e | e | e | e
      · exact e
      · exact absurd e (str_ne h6)
      · exact absurd e (str_ne h8)
      · exact absurd e (str_ne h3)
      · exact absurd e n04
      · exact absurd e n03
      · exact absurd e (str_ne h7)
      · exact absurd e (str_ne h2)
      · exact absurd e (str_ne h5)
      · exact absurd e (str_ne h4)
      · exact absurd e (str_ne h9)
      · exact absurd e n02
      · exact absurd e (str_ne h1)
      · exact absurd e n01
    subst e
    show tMkO (cl K "Wrong") (spI1 K "place") [] (tCons (tVar 1) tNil) _ _ (fun cls d H' => E cls d H')
    refine made1 (T.exc "Wrong" (by decide)).oex (T.noat ("Wrong", "place") (by decide)) ?_ ?_
    · exact ⟨_, rfl, x, rfl, fun d H' hM => one ("Wrong", "place", "place") (by decide) rfl d H' hM⟩
    · exact fun R R' i ⟨v, e, r⟩ => ⟨v, e, i _ _ r⟩
end
end K00

namespace K00
open PySem PySem.Spec PyProof.Rows L2 Ly
/-- how many fields -/
def mny (nm : Str) : Nat := if nm = "NoText" then 2 else if nm ∈ zero4 then 0 else 1
theorem scMet : FnScope ["name", "one", "other", "error"] ["name", "one", "other"] (defScope (topS 24)) := ⟨rfl, rfl, rfl, by decide +kernel, rfl, by decide +kernel, by decide +kernel⟩
theorem scBack : FnScope ["name", "one", "other"] ["name", "one", "other"] (defScope (topS 25)) := ⟨rfl, rfl, rfl, by decide +kernel, rfl, by decide +kernel, by decide +kernel⟩
theorem scIsT : FnScope ["name", "one", "other", "error"] ["name", "one", "other"] (defScope (topS 26)) := ⟨rfl, rfl, rfl, by decide +kernel, rfl, by decide +kernel, by decide +kernel⟩
section
variable {P : Program} {w : World} {K : PySem.W.Frag} {mg : Str → Option Value} {base : Heap} {f fR fP : Addr} {fd fdR fdP : FuncData}
def spMet : Sp := fun vs H Q _ => ∃ (nm : Str) (x y : V), vs = [.str nm, x, y] ∧ nm ∈ all14 ∧ ∀ p l H', Same H H' → H p = none → H l = none → p ≠ l → H' p = some (.tup [.str nm, .ref l]) → H' l = some (.lst ([x, y].take (mny nm))) → Q (.ref p) H'
theorem names_of {X : Cx} (T : Txt K mg) (hm : X.mg = mg) (x : Str) (hx : x ∈ glos) (hg : Gl X x) (hd : (x == ("__debug__" : Str)) = false) : Names X x (.ref (cl K x)) := ⟨hg, hd, .inl (by rw [hm]; exact T.glo x hx)⟩
theorem ok_met (F : FnP K "_law_met" 24 f fd) (FR : FnP K "_law_raise" 23 fR fdR) (gR : mg "_law_raise" = some (.ref fR)) (FP : FnP K "_law_raise_plain" 22 fP fdP) (gP : mg "_law_raise_plain" = some (.ref fP)) (T : Txt K mg) :
    FnOk P w K mg base CX0 5 f fd ["name", "one", "other"] spMet := by
  have GR : FnOk P w K mg base (L2.CX P w) 4 fR fdR ["name", "one", "other"] (spRaise K) := ok_raise FR FP gP T
  have bR : Binds K fdR ["name", "one", "other"] [] := FR.bindsN fun _ _ _ _ _ _ us hl => match us, hl with | [_, _, _], _ => rfl
  refine F.ok scMet (fun vs H Q E h => ?_) (fun cd A outer s H vs Q E hr h => ?_)
  · obtain ⟨nm, x, y, rfl, _⟩ := h
    rfl
  · obtain ⟨nm, x, y, rfl, hm, hQ⟩ := h
    refine ⟨_, PSs.nox (pss_one (ps_tries (tb := fun W => tDrop (tCallS (spRaise K) (WE W) (tCons (tVar 0) (tCons (tVar 1) (tCons (tVar 2) tNil))))) (Wout := fun _ _ _ _ => False) rfl rfl scMet.nd takes0
      (fun W pn xe tk _ => pss_one (ps_expr (by exact (pe_callS GR hr rfl gR FR.kp bR (fun σ => passAt tk σ) (by exact (pa_cons (pv 0) (pa_cons (pv 1) (pa_cons (pv 2) pa_nil))))))))
      (.bare (ts := fun _ _ _ => tRet (tTup (tCons (tC (.str "Nothing")) (tCons (tLst tNil) tNil)))) (names_of T rfl "Nothing" (by decide) rfl (by decide)) (fun _ _ _ _ _ _ _ => pss_one (ps_ret (pe_tup (pa_cons pe_str (pa_cons (pe_lst pa_nil) pa_nil))))) 
        (.named (i := 3) (ts := fun a cls d => tRet (tTup (tCons (tC (.str "NoCommand")) (tCons (tLst (tCons (tXf a cls d (cl K "NoCommand") "line" (tVar 3)) tNil)) tNil)))) rfl rfl (names_of T rfl "NoCommand" (by decide) rfl (by decide)) (fun a oe cls d pn hz hf => pss_one (ps_ret (pe_tup (pa_cons pe_str (pa_cons (pe_lst (pa_cons (pe_xf (T.exc "NoCommand" (by decide)).xf (T.noat ("NoCommand", "line") (by decide)) hz hf (pv 3)) pa_nil)) pa_nil))))) 
        (.bare (ts := fun _ _ _ => tRet (tTup (tCons (tC (.str "NoForget")) (tCons (tLst tNil) tNil)))) (names_of T rfl "NoForget" (by decide) rfl (by decide)) (fun _ _ _ _ _ _ _ => pss_one (ps_ret (pe_tup (pa_cons pe_str (pa_cons (pe_lst pa_nil) pa_nil))))) 
        (.named (i := 3) (ts := fun a cls d => tRet (tTup (tCons (tC (.str "NoGuide")) (tCons (tLst (tCons (tXf a cls d (cl K "NoGuide") "bar" (tVar 3)) tNil)) tNil)))) rfl rfl (names_of T rfl "NoGuide" (by decide) rfl (by decide)) (fun a oe cls d pn hz hf => pss_one (ps_ret (pe_tup (pa_cons pe_str (pa_cons (pe_lst (pa_cons (pe_xf (T.exc "NoGuide" (by decide)).xf (T.noat ("NoGuide", "bar") (by decide)) hz hf (pv 3)) pa_nil)) pa_nil))))) 
        (.named (i := 3) (ts := fun a cls d => tRet (tTup (tCons (tC (.str "NoLand")) (tCons (tLst (tCons (tXf a cls d (cl K "NoLand") "fault" (tVar 3)) tNil)) tNil)))) rfl rfl (names_of T rfl "NoLand" (by decide) rfl (by decide)) (fun a oe cls d pn hz hf => pss_one (ps_ret (pe_tup (pa_cons pe_str (pa_cons (pe_lst (pa_cons (pe_xf (T.exc "NoLand" (by decide)).xf (T.noat ("NoLand", "fault") (by decide)) hz hf (pv 3)) pa_nil)) pa_nil))))) 
        (.bare (ts := fun _ _ _ => tRet (tTup (tCons (tC (.str "NoLaying")) (tCons (tLst tNil) tNil)))) (names_of T rfl "NoLaying" (by decide) rfl (by decide)) (fun _ _ _ _ _ _ _ => pss_one (ps_ret (pe_tup (pa_cons pe_str (pa_cons (pe_lst pa_nil) pa_nil))))) 
        (.named (i := 3) (ts := fun a cls d => tRet (tTup (tCons (tC (.str "NoNumber")) (tCons (tLst (tCons (tXf a cls d (cl K "NoNumber") "many" (tVar 3)) tNil)) tNil)))) rfl rfl (names_of T rfl "NoNumber" (by decide) rfl (by decide)) (fun a oe cls d pn hz hf => pss_one (ps_ret (pe_tup (pa_cons pe_str (pa_cons (pe_lst (pa_cons (pe_xf (T.exc "NoNumber" (by decide)).xf (T.noat ("NoNumber", "many") (by decide)) hz hf (pv 3)) pa_nil)) pa_nil))))) 
        (.named (i := 3) (ts := fun a cls d => tRet (tTup (tCons (tC (.str "NoPick")) (tCons (tLst (tCons (tXf a cls d (cl K "NoPick") "index" (tVar 3)) tNil)) tNil)))) rfl rfl (names_of T rfl "NoPick" (by decide) rfl (by decide)) (fun a oe cls d pn hz hf => pss_one (ps_ret (pe_tup (pa_cons pe_str (pa_cons (pe_lst (pa_cons (pe_xf (T.exc "NoPick" (by decide)).xf (T.noat ("NoPick", "index") (by decide)) hz hf (pv 3)) pa_nil)) pa_nil))))) 
        (.named (i := 3) (ts := fun a cls d => tRet (tTup (tCons (tC (.str "NoText")) (tCons (tLst (tCons (tXf a cls d (cl K "NoText") "line" (tVar 3)) (tCons (tXf a cls d (cl K "NoText") "column" (tVar 3)) tNil))) tNil)))) rfl rfl (names_of T rfl "NoText" (by decide) rfl (by decide)) (fun a oe cls d pn hz hf => pss_one (ps_ret (pe_tup (pa_cons pe_str (pa_cons (pe_lst (pa_cons (pe_xf (T.exc "NoText" (by decide)).xf (T.noat ("NoText", "line") (by decide)) hz hf (pv 3)) (pa_cons (pe_xf (T.exc "NoText" (by decide)).xf (T.noat ("NoText", "column") (by decide)) hz hf (pv 3)) pa_nil))) pa_nil))))) 
        (.named (i := 3) (ts := fun a cls d => tRet (tTup (tCons (tC (.str "NoTile")) (tCons (tLst (tCons (tXf a cls d (cl K "NoTile") "cell" (tVar 3)) tNil)) tNil)))) rfl rfl (names_of T rfl "NoTile" (by decide) rfl (by decide)) (fun a oe cls d pn hz hf => pss_one (ps_ret (pe_tup (pa_cons pe_str (pa_cons (pe_lst (pa_cons (pe_xf (T.exc "NoTile" (by decide)).xf (T.noat ("NoTile", "cell") (by decide)) hz hf (pv 3)) pa_nil)) pa_nil))))) 
        (.named (i := 3) (ts := fun a cls d => tRet (tTup (tCons (tC (.str "NoWorld")) (tCons (tLst (tCons (tXf a cls d (cl K "NoWorld") "fault" (tVar 3)) tNil)) tNil)))) rfl rfl (names_of T rfl "NoWorld" (by decide) rfl (by decide)) (fun a oe cls d pn hz hf => pss_one (ps_ret (pe_tup (pa_cons pe_str (pa_cons (pe_lst (pa_cons (pe_xf (T.exc "NoWorld" (by decide)).xf (T.noat ("NoWorld", "fault") (by decide)) hz hf (pv 3)) pa_nil)) pa_nil))))) 
        (.bare (ts := fun _ _ _ => tRet (tTup (tCons (tC (.str "Refused")) (tCons (tLst tNil) tNil)))) (names_of T rfl "Refused" (by decide) rfl (by decide)) (fun _ _ _ _ _ _ _ => pss_one (ps_ret (pe_tup (pa_cons pe_str (pa_cons (pe_lst pa_nil) pa_nil))))) 
        (.named (i := 3) (ts := fun a cls d => tRet (tTup (tCons (tC (.str "TooMany")) (tCons (tLst (tCons (tXf a cls d (cl K "TooMany") "most" (tVar 3)) tNil)) tNil)))) rfl rfl (names_of T rfl "TooMany" (by decide) rfl (by decide)) (fun a oe cls d pn hz hf => pss_one (ps_ret (pe_tup (pa_cons pe_str (pa_cons (pe_lst (pa_cons (pe_xf (T.exc "TooMany" (by decide)).xf (T.noat ("TooMany", "most") (by decide)) hz hf (pv 3)) pa_nil)) pa_nil))))) 
        (.named (i := 3) (ts := fun a cls d => tRet (tTup (tCons (tC (.str "Wrong")) (tCons (tLst (tCons (tXf a cls d (cl K "Wrong") "place" (tVar 3)) tNil)) tNil)))) rfl rfl (names_of T rfl "Wrong" (by decide) rfl (by decide)) (fun a oe cls d pn hz hf => pss_one (ps_ret (pe_tup (pa_cons pe_str (pa_cons (pe_lst (pa_cons (pe_xf (T.exc "Wrong" (by decide)).xf (T.noat ("Wrong", "place") (by decide)) hz hf (pv 3)) pa_nil)) pa_nil))))) 
        .nil)))))))))))))))), ?_⟩
    refine ⟨_, rfl, _, rfl, _, rfl, nm, x, y, rfl, hm, fun d H' hM => ?_⟩
    -- what a suite ends with
    have fin : ∀ (l p : Addr) (xs : List V), xs = [x, y].take (mny nm) → H' l = none → upd H' l (.lst xs) p = none → Q (.ref p) (upd (upd H' l (.lst xs)) p (.tup [.str nm, .ref l])) := by
      intro l p xs e hl hp
      have n : l ≠ p := ne_of_none upd_same hp
      refine hQ p l _ ((hM.1.trans (same_new hl)).trans (same_new hp)) ((hM.1.trans (same_new hl)).free hp) (hM.1.free hl) (Ne.symm n) upd_same ?_
      rw [upd_ne n, upd_same, e]
    refine ⟨_, T.exm nm hm "Nothing" (by decide), fun hb a ha => ?_, fun h0 => ?_⟩
    · have e : nm = "Nothing" := of_decide_eq_true hb
      subst e
      exact ⟨few_line (by simp), fun l hl => ⟨few_line (by simp), fun p hp => fin l p [] rfl hl hp⟩⟩
    refine ⟨_, T.exm nm hm "NoCommand" (by decide), fun hb a ha => ?_, fun h1 => ?_⟩
    · have e : nm = "NoCommand" := of_decide_eq_true hb
      subst e
      rcases hM.2 with ⟨e, _⟩ | ⟨dd, rfl, _, hd⟩
      · cases e
      · refine ⟨_, rfl, rfl, rfl, dd, _, x, rfl, hd, rfl, ?_⟩
        exact ⟨few_line (by simp), fun l hl => ⟨few_line (by simp), fun p hp => fin l p [x] rfl hl hp⟩⟩
    refine ⟨_, T.exm nm hm "NoForget" (by decide), fun hb a ha => ?_, fun h2 => ?_⟩
    · have e : nm = "NoForget" := of_decide_eq_true hb
      subst e
      exact ⟨few_line (by simp), fun l hl => ⟨few_line (by simp), fun p hp => fin l p [] rfl hl hp⟩⟩
    refine ⟨_, T.exm nm hm "NoGuide" (by decide), fun hb a ha => ?_, fun h3 => ?_⟩
    · have e : nm = "NoGuide" := of_decide_eq_true hb
      subst e
      rcases hM.2 with ⟨e, _⟩ | ⟨dd, rfl, _, hd⟩
      · cases e
      · refine ⟨_, rfl, rfl, rfl, dd, _, x, rfl, hd, rfl, ?_⟩
        exact ⟨few_line (by simp), fun l hl => ⟨few_line (by simp), fun p hp => fin l p [x] rfl hl hp⟩⟩
    refine ⟨_, T.exm nm hm "NoLand" (by decide), fun hb a ha => ?_, fun h4 => ?_⟩
    · have e : nm = "NoLand" := of_decide_eq_true hb
      subst e
      rcases hM.2 with ⟨e, _⟩ | ⟨dd, rfl, _, hd⟩
      · cases e
      · refine ⟨_, rfl, rfl, rfl, dd, _, x, rfl, hd, rfl, ?_⟩
        exact ⟨few_line (by simp), fun l hl => ⟨few_line (by simp), fun p hp => fin l p [x] rfl hl hp⟩⟩
    refine ⟨_, T.exm nm hm "NoLaying" (by decide), fun hb a ha => ?_, fun h5 => ?_⟩
    · have e : nm = "NoLaying" := of_decide_eq_true hb
      subst e
      exact ⟨few_line (by simp), fun l hl => ⟨few_line (by simp), fun p hp => fin l p [] rfl hl hp⟩⟩
    refine ⟨_, T.exm nm hm "NoNumber" (by decide), fun hb a ha => ?_, fun h6 => ?_⟩
    · have e : nm = "NoNumber" := of_decide_eq_true hb
      subst e
      rcases hM.2 with ⟨e, _⟩ | ⟨dd, rfl, _, hd⟩
      · cases e
      · refine ⟨_, rfl, rfl, rfl, dd, _, x, rfl, hd, rfl, ?_⟩
        exact ⟨few_line (by simp), fun l hl => ⟨few_line (by simp), fun p hp => fin l p [x] rfl hl hp⟩⟩
    refine ⟨_, T.exm nm hm "NoPick" (by decide), fun hb a ha => ?_, fun h7 => ?_⟩
    · have e : nm = "NoPick" := of_decide_eq_true hb
      subst e
      rcases hM.2 with ⟨e, _⟩ | ⟨dd, rfl, _, hd⟩
      · cases e
      · refine ⟨_, rfl, rfl, rfl, dd, _, x, rfl, hd, rfl, ?_⟩
        exact ⟨few_line (by simp), fun l hl => ⟨few_line (by simp), fun p hp => fin l p [x] rfl hl hp⟩⟩
    refine ⟨_, T.exm nm hm "NoText" (by decide), fun hb a ha => ?_, fun h8 => ?_⟩
    · have e : nm = "NoText" := of_decide_eq_true hb
      subst e
      rcases hM.2 with ⟨e, _⟩ | ⟨dd, rfl, _, hd⟩
      · cases e
      · refine ⟨_, rfl, rfl, rfl, dd, _, x, rfl, hd, rfl, _, rfl, rfl, rfl, dd, _, y, rfl, hd, rfl, ?_⟩
        exact ⟨few_line (by simp), fun l hl => ⟨few_line (by simp), fun p hp => fin l p [x, y] rfl hl hp⟩⟩
    refine ⟨_, T.exm nm hm "NoTile" (by decide), fun hb a ha => ?_, fun h9 => ?_⟩
    · have e : nm = "NoTile" := of_decide_eq_true hb
      subst e
      rcases hM.2 with ⟨e, _⟩ | ⟨dd, rfl, _, hd⟩
      · cases e
      · refine ⟨_, rfl, rfl, rfl, dd, _, x, rfl, hd, rfl, ?_⟩
        exact ⟨few_line (by simp), fun l hl => ⟨few_line (by simp), fun p hp => fin l p [x] rfl hl hp⟩⟩
    refine ⟨_, T.exm nm hm "NoWorld" (by decide), fun hb a ha => ?_, fun h10 => ?_⟩
    · have e : nm = "NoWorld" := of_decide_eq_true hb
      subst e
      rcases hM.2 with ⟨e, _⟩ | ⟨dd, rfl, _, hd⟩
      · cases e
      · refine ⟨_, rfl, rfl, rfl, dd, _, x, rfl, hd, rfl, ?_⟩
        exact ⟨few_line (by simp), fun l hl => ⟨few_line (by simp), fun p hp => fin l p [x] rfl hl hp⟩⟩
    refine ⟨_, T.exm nm hm "Refused" (by decide), fun hb a ha => ?_, fun h11 => ?_⟩
    · have e : nm = "Refused" := of_decide_eq_true hb
      subst e
      exact ⟨few_line (by simp), fun l hl => ⟨few_line (by simp), fun p hp => fin l p [] rfl hl hp⟩⟩
    refine ⟨_, T.exm nm hm "TooMany" (by decide), fun hb a ha => ?_, fun h12 => ?_⟩
    · have e : nm = "TooMany" := of_decide_eq_true hb
      subst e
      rcases hM.2 with ⟨e, _⟩ | ⟨dd, rfl, _, hd⟩
      · cases e
      · refine ⟨_, rfl, rfl, rfl, dd, _, x, rfl, hd, rfl, ?_⟩
        exact ⟨few_line (by simp), fun l hl => ⟨few_line (by simp), fun p hp => fin l p [x] rfl hl hp⟩⟩
    refine ⟨_, T.exm nm hm "Wrong" (by decide), fun hb a ha => ?_, fun h13 => ?_⟩
    · have e : nm = "Wrong" := of_decide_eq_true hb
      subst e
      rcases hM.2 with ⟨e, _⟩ | ⟨dd, rfl, _, hd⟩
      · cases e
      · refine ⟨_, rfl, rfl, rfl, dd, _, x, rfl, hd, rfl, ?_⟩
        exact ⟨few_line (by simp), fun l hl => ⟨few_line (by simp), fun p hp => fin l p [x] rfl hl hp⟩⟩
    simp only [all14, List.mem_cons, List.not_mem_nil, or_false] at hm
    rcases hm with e | e | e | e | e | e | e | e | e | e | e | e | e | e
    · exact absurd e (of_decide_eq_false h13)
    · exact absurd e (of_decide_eq_false h8)
    · exact absurd e (of_decide_eq_false h10)
    · exact absurd e (of_decide_eq_false h4)
    · exact absurd e (of_decide_eq_false h11)
    · exact absurd e (of_decide_eq_false h5)
    · exact absurd e (of_decide_eq_false h9)
    · exact absurd e (of_decide_eq_false h3)
    · exact absurd e (of_decide_eq_false h7)
    · exact absurd e (of_decide_eq_false h6)
    · exact absurd e (of_decide_eq_false h12)
    · exact absurd e (of_decide_eq_false h2)
    · exact absurd e (of_decide_eq_false h1)
    · exact absurd e (of_decide_eq_false h0)
def spBack : Sp := fun vs H Q _ => ∃ (nm : Str) (x y : V), vs = [.str nm, x, y] ∧ nm ∈ all14 ∧ ∀ H', Same H H' → Q (.str nm) H'
theorem ok_back (F : FnP K "_law_met_back" 25 f fd) (FR : FnP K "_law_raise" 23 fR fdR) (gR : mg "_law_raise" = some (.ref fR)) (FP : FnP K "_law_raise_plain" 22 fP fdP) (gP : mg "_law_raise_plain" = some (.ref fP)) (T : Txt K mg) :
    FnOk P w K mg base CX0 5 f fd ["name", "one", "other"] spBack := by
  have GR : FnOk P w K mg base (L2.CX P w) 4 fR fdR ["name", "one", "other"] (spRaise K) := ok_raise FR FP gP T
  have bR : Binds K fdR ["name", "one", "other"] [] := FR.bindsN fun _ _ _ _ _ _ us hl => match us, hl with | [_, _, _], _ => rfl
  refine F.ok scBack (fun vs H Q E h => ?_) (fun cd A outer s H vs Q E hr h => ?_)
  · obtain ⟨nm, x, y, rfl, _⟩ := h
    rfl
  · obtain ⟨nm, x, y, rfl, hm, hQ⟩ := h
    refine ⟨_, PSs.nox (pss_one (ps_tries (tb := fun W => tDrop (tCallS (spRaise K) (WE W) (tCons (tVar 0) (tCons (tVar 1) (tCons (tVar 2) tNil))))) (Wout := fun _ _ _ _ => False) rfl rfl scBack.nd takes0
      (fun W pn xe tk _ => pss_one (ps_expr (by exact (pe_callS GR hr rfl gR FR.kp bR (fun σ => passAt tk σ) (by exact (pa_cons (pv 0) (pa_cons (pv 1) (pa_cons (pv 2) pa_nil))))))))
      (.bare (ts := fun _ _ _ => tRet (tC (.str "Wrong"))) (names_of T rfl "Wrong" (by decide) rfl (by decide)) (fun _ _ _ _ _ _ _ => pss_one (ps_ret pe_str)) 
        (.bare (ts := fun _ _ _ => tRet (tC (.str "TooMany"))) (names_of T rfl "TooMany" (by decide) rfl (by decide)) (fun _ _ _ _ _ _ _ => pss_one (ps_ret pe_str)) 
        (.bare (ts := fun _ _ _ => tRet (tC (.str "Refused"))) (names_of T rfl "Refused" (by decide) rfl (by decide)) (fun _ _ _ _ _ _ _ => pss_one (ps_ret pe_str)) 
        (.bare (ts := fun _ _ _ => tRet (tC (.str "NoWorld"))) (names_of T rfl "NoWorld" (by decide) rfl (by decide)) (fun _ _ _ _ _ _ _ => pss_one (ps_ret pe_str)) 
        (.bare (ts := fun _ _ _ => tRet (tC (.str "NoTile"))) (names_of T rfl "NoTile" (by decide) rfl (by decide)) (fun _ _ _ _ _ _ _ => pss_one (ps_ret pe_str)) 
        (.bare (ts := fun _ _ _ => tRet (tC (.str "NoText"))) (names_of T rfl "NoText" (by decide) rfl (by decide)) (fun _ _ _ _ _ _ _ => pss_one (ps_ret pe_str)) 
        (.bare (ts := fun _ _ _ => tRet (tC (.str "NoPick"))) (names_of T rfl "NoPick" (by decide) rfl (by decide)) (fun _ _ _ _ _ _ _ => pss_one (ps_ret pe_str)) 
        (.bare (ts := fun _ _ _ => tRet (tC (.str "NoNumber"))) (names_of T rfl "NoNumber" (by decide) rfl (by decide)) (fun _ _ _ _ _ _ _ => pss_one (ps_ret pe_str)) 
        (.bare (ts := fun _ _ _ => tRet (tC (.str "NoLaying"))) (names_of T rfl "NoLaying" (by decide) rfl (by decide)) (fun _ _ _ _ _ _ _ => pss_one (ps_ret pe_str)) 
        (.bare (ts := fun _ _ _ => tRet (tC (.str "NoLand"))) (names_of T rfl "NoLand" (by decide) rfl (by decide)) (fun _ _ _ _ _ _ _ => pss_one (ps_ret pe_str)) 
        (.bare (ts := fun _ _ _ => tRet (tC (.str "NoGuide"))) (names_of T rfl "NoGuide" (by decide) rfl (by decide)) (fun _ _ _ _ _ _ _ => pss_one (ps_ret pe_str)) 
        (.bare (ts := fun _ _ _ => tRet (tC (.str "NoForget"))) (names_of T rfl "NoForget" (by decide) rfl (by decide)) (fun _ _ _ _ _ _ _ => pss_one (ps_ret pe_str)) 
        (.bare (ts := fun _ _ _ => tRet (tC (.str "NoCommand"))) (names_of T rfl "NoCommand" (by decide) rfl (by decide)) (fun _ _ _ _ _ _ _ => pss_one (ps_ret pe_str)) 
        (.bare (ts := fun _ _ _ => tRet (tC (.str "Nothing"))) (names_of T rfl "Nothing" (by decide) rfl (by decide)) (fun _ _ _ _ _ _ _ => pss_one (ps_ret pe_str)) 
        .nil)))))))))))))))), ?_⟩
    refine ⟨_, rfl, _, rfl, _, rfl, nm, x, y, rfl, hm, fun d H' hM => ?_⟩
    refine ⟨_, T.exm nm hm "Wrong" (by decide), fun hb a ha => ?_, fun h0 => ?_⟩
    · have e : nm = "Wrong" := of_decide_eq_true hb
      subst e
      exact hQ _ hM.1
    refine ⟨_, T.exm nm hm "TooMany" (by decide), fun hb a ha => ?_, fun h1 => ?_⟩
    · have e : nm = "TooMany" := of_decide_eq_true hb
      subst e
      exact hQ _ hM.1
    refine ⟨_, T.exm nm hm "Refused" (by decide), fun hb a ha => ?_, fun h2 => ?_⟩
    · have e : nm = "Refused" := of_decide_eq_true hb
      subst e
      exact hQ _ hM.1
    refine ⟨_, T.exm nm hm "NoWorld" (by decide), fun hb a ha => ?_, fun h3 => ?_⟩
    · have e : nm = "NoWorld" := of_decide_eq_true hb
      subst e
      exact hQ _ hM.1
    refine ⟨_, T.exm nm hm "NoTile" (by decide), fun hb a ha => ?_, fun h4 => ?_⟩
    · have e : nm = "NoTile" := of_decide_eq_true hb
      subst e
      exact hQ _ hM.1
    refine ⟨_, T.exm nm hm "NoText" (by decide), fun hb a ha => ?_, fun h5 => ?_⟩
    · have e : nm = "NoText" := of_decide_eq_true hb
      subst e
      exact hQ _ hM.1
    refine ⟨_, T.exm nm hm "NoPick" (by decide), fun hb a ha => ?_, fun h6 => ?_⟩
    · have e : nm = "NoPick" := of_decide_eq_true hb
      subst e
      exact hQ _ hM.1
    refine ⟨_, T.exm nm hm "NoNumber" (by decide), fun hb a ha => ?_, fun h7 => ?_⟩
    · have e : nm = "NoNumber" := of_decide_eq_true hb
      subst e
      exact hQ _ hM.1
    refine ⟨_, T.exm nm hm "NoLaying" (by decide), fun hb a ha => ?_, fun h8 => ?_⟩
    · have e : nm = "NoLaying" := of_decide_eq_true hb
      subst e
      exact hQ _ hM.1
    refine ⟨_, T.exm nm hm "NoLand" (by decide), fun hb a ha => ?_, fun h9 => ?_⟩
    · have e : nm = "NoLand" := of_decide_eq_true hb
      subst e
      exact hQ _ hM.1
    refine ⟨_, T.exm nm hm "NoGuide" (by decide), fun hb a ha => ?_, fun h10 => ?_⟩
    · have e : nm = "NoGuide" := of_decide_eq_true hb
      subst e
      exact hQ _ hM.1
    refine ⟨_, T.exm nm hm "NoForget" (by decide), fun hb a ha => ?_, fun h11 => ?_⟩
    · have e : nm = "NoForget" := of_decide_eq_true hb
      subst e
      exact hQ _ hM.1
    refine ⟨_, T.exm nm hm "NoCommand" (by decide), fun hb a ha => ?_, fun h12 => ?_⟩
    · have e : nm = "NoCommand" := of_decide_eq_true hb
      subst e
      exact hQ _ hM.1
    refine ⟨_, T.exm nm hm "Nothing" (by decide), fun hb a ha => ?_, fun h13 => ?_⟩
    · have e : nm = "Nothing" := of_decide_eq_true hb
      subst e
      exact hQ _ hM.1
    simp only [all14, List.mem_cons, List.not_mem_nil, or_false] at hm
    rcases hm with e | e | e | e | e | e | e | e | e | e | e | e | e | e
    · exact absurd e (of_decide_eq_false h0)
    · exact absurd e (of_decide_eq_false h5)
    · exact absurd e (of_decide_eq_false h3)
    · exact absurd e (of_decide_eq_false h9)
    · exact absurd e (of_decide_eq_false h2)
    · exact absurd e (of_decide_eq_false h8)
    · exact absurd e (of_decide_eq_false h4)
    · exact absurd e (of_decide_eq_false h10)
    · exact absurd e (of_decide_eq_false h6)
    · exact absurd e (of_decide_eq_false h7)
    · exact absurd e (of_decide_eq_false h1)
    · exact absurd e (of_decide_eq_false h11)
    · exact absurd e (of_decide_eq_false h12)
    · exact absurd e (of_decide_eq_false h13)
def spIsT : Sp := fun vs H Q _ => ∃ (nm : Str) (x y : V), vs = [.str nm, x, y] ∧ nm ∈ all14 ∧ ∀ H', Same H H' → Q (.bl true) H'
theorem ok_isT (F : FnP K "_law_is_tile_error" 26 f fd) (FR : FnP K "_law_raise" 23 fR fdR) (gR : mg "_law_raise" = some (.ref fR)) (FP : FnP K "_law_raise_plain" 22 fP fdP) (gP : mg "_law_raise_plain" = some (.ref fP)) (T : Txt K mg) :
    FnOk P w K mg base CX0 5 f fd ["name", "one", "other"] spIsT := by
  have GR : FnOk P w K mg base (L2.CX P w) 4 fR fdR ["name", "one", "other"] (spRaise K) := ok_raise FR FP gP T
  have bR : Binds K fdR ["name", "one", "other"] [] := FR.bindsN fun _ _ _ _ _ _ us hl => match us, hl with | [_, _, _], _ => rfl
  refine F.ok scIsT (fun vs H Q E h => ?_) (fun cd A outer s H vs Q E hr h => ?_)
  · obtain ⟨nm, x, y, rfl, _⟩ := h
    rfl
  · obtain ⟨nm, x, y, rfl, hm, hQ⟩ := h
    refine ⟨_, PSs.nox (pss_cons (ps_tries (tb := fun W => tDrop (tCallS (spRaise K) (WE W) (tCons (tVar 0) (tCons (tVar 1) (tCons (tVar 2) tNil))))) (Wout := fun _ _ _ _ => False) rfl rfl scIsT.nd takes0
      (fun W pn xe tk _ => pss_one (ps_expr (by exact (pe_callS GR hr rfl gR FR.kp bR (fun σ => passAt tk σ) (by exact (pa_cons (pv 0) (pa_cons (pv 1) (pa_cons (pv 2) pa_nil))))))))
      (.named (i := 3) (ts := fun a cls d => tRet (tCB (rIsAny K a cls d) (tCons (tVar 3) (tCons (tC (.ty "ValueError")) tNil)))) rfl rfl (names_of T rfl "TileError" (by decide) rfl (by decide))
        (fun a oe cls d pn hz hf => pss_one (ps_ret (pe_callB (call_isAny T.sg T.tk hz hf) (by rfl) (T.free "isinstance" (by decide)) (by decide +kernel) (pa_cons (pv 3) (pa_cons (pe_bltn (v := .ty "ValueError") (by rfl) (T.free "ValueError" (by decide)) (by decide +kernel) rfl) pa_nil))))) .nil))
      (pss_one (ps_ret pe_bl))), ?_⟩
    refine ⟨_, rfl, _, rfl, _, rfl, nm, x, y, rfl, hm, fun d H' hM => ?_⟩
    refine ⟨_, T.exT nm hm, fun _ a ha => ?_, fun h => nomatch h⟩
    refine ⟨_, rfl, cl K nm, ini K nm, rfl, T.exc nm hm, "ValueError", true, rfl, ?_, T.kit nm hm, hQ _ hM.1⟩
    rcases hM.2 with ⟨_, e⟩ | ⟨dd, e, _, hd⟩
    · exact .inl e
    · exact .inr ⟨dd, _, e, hd⟩
end
end K00

namespace K00
open PySem PySem.Spec PyProof.Rows L2 Ly
theorem scAlike : FnScope ["found", "due"] ["found", "due"] (defScope (topS 20)) := ⟨rfl, rfl, rfl, by decide +kernel, rfl, by decide +kernel, by decide +kernel⟩
theorem scLaw : FnScope ["script", "bag", "many", "name", "turn", "one", "other", "said", "due", "own", "its", "found"] ["script"] (defScope (topS 27)) := ⟨rfl, rfl, rfl, by decide +kernel, rfl, by decide +kernel, by decide +kernel⟩
/-- the names with how many fields, as the dict has them -/
def kn1 : List Str := ["Nothing", "NoCommand", "NoForget", "NoGuide", "NoLand", "NoLaying", "NoNumber"]
def kn2 : List Str := ["NoPick", "NoText", "NoTile", "NoWorld", "Refused", "TooMany", "Wrong"]
def ent (x : Str) : Key × V := (.inr x, .int (mny x))
def manyK : List (Key × V) := (kn1 ++ kn2).map ent
theorem kn_all : ∀ x ∈ kn1 ++ kn2, x ∈ all14 := by decide +kernel
theorem many_at : ∀ x ∈ kn1 ++ kn2, valV manyK (.inr x) = some (.int (mny x)) := by
  intro x h
  simp only [kn1, kn2, List.cons_append, List.nil_append, List.mem_cons, List.not_mem_nil, or_false] at h
  rcases h with rfl | rfl | rfl | rfl | rfl | rfl | rfl | rfl | rfl | rfl | rfl | rfl | rfl | rfl <;> rfl
theorem mny_le (x : Str) : mny x ≤ 2 := by
  unfold mny
  split
  · decide
  · split <;> decide
/-- what stands through the law: the bag at b, the dict at m, the names at l -/
structure Std (b m l : Addr) (ys : List Str) (H : Hp) : Prop where
  bag : IsBag H b
  dic : H m = some (.dK manyK)
  lst : H l = some (.lst (ys.map V.str))
theorem Std.same {b m l : Addr} {ys : List Str} {H H' : Hp} (h : Std b m l ys H) (s : Same H H') : Std b m l ys H' := ⟨h.bag.same s, s _ _ h.dic, s _ _ h.lst⟩
theorem Std.kp {b m l : Addr} {ys : List Str} {H H' : Hp} (h : Std b m l ys H) (k : Kp b H H') (hb : IsBag H' b) : Std b m l ys H' := by
  obtain ⟨q, x0, x1, x2, ms, hB⟩ := h.bag
  refine ⟨hb, k _ _ (ne_of h.dic hB.top (by simp)) h.dic, k _ _ ?_ h.lst⟩
  rintro rfl
  have e := h.lst.symm.trans hB.top
  have e := HO.lst.inj (Option.some.inj e)
  have m : V.ref q ∈ ys.map V.str := by
    rw [e]
    simp
  obtain ⟨z, _, hz⟩ := List.mem_map.mp m
  cases hz
/-- a drawn value is flat, or a reference -/
theorem dq_flat {K : PySem.W.Frag} {H : Hp} {v : V} {d : PyData} (h : Dq K H v d) : (v = v ∧ flatB v = true) ∨ ∃ a, v = .ref a ∧ v = .ref a := by
  cases h with
  | lst _ _ => exact .inr ⟨_, rfl, rfl⟩
  | tup _ _ => exact .inr ⟨_, rfl, rfl⟩
  | dic _ _ => exact .inr ⟨_, rfl, rfl⟩
  | _ => exact .inl ⟨rfl, rfl⟩
theorem paired_refl {K : PySem.W.Frag} {H : Hp} (n : Nat) : ∀ {vs : List V} {ds : List PyData}, DqA K H vs ds → Paired (EqS K H n) vs vs
  | _, _, .nil => .nil
  | _, _, .cons h t => .cons (by cases n with
    | zero => exact dq_flat h
    | succ n => exact .inl (dq_flat h)) (paired_refl n t)
theorem dqa_take {K : PySem.W.Frag} {H : Hp} : ∀ (k : Nat) {vs : List V} {ds : List PyData}, DqA K H vs ds → DqA K H (vs.take k) (ds.take k)
  | 0, _, _, _ => .nil
  | _ + 1, _, _, .nil => .nil
  | k + 1, _, _, .cons h t => .cons h (dqa_take k t)
theorem cut_take (xs : List V) (k : Nat) : cutV xs none (some (k : Int)) = xs.take k := by
  unfold cutV
  rw [HT.sIx_nat, show HT.sIx xs.length 0 none = 0 from HT.sIx_none _ _]
  simp only [List.drop_zero, Nat.sub_zero]
  by_cases h : k ≤ xs.length
  · rw [Nat.min_eq_left h]
  · rw [Nat.min_eq_right (by omega), List.take_of_length_le (Nat.le_refl _), List.take_of_length_le (by omega)]
/-- texts of few short things are short -/
theorem shown_list_le {ds : List PyData} {B : Nat} (h : ∀ d ∈ ds, d.shown.length ≤ B) : (PyData.list ds).shown.length ≤ ds.length * (B + 2) + 3 := by
  simp only [PyData.shown]
  refine Nat.le_trans (listText_len_le _) ?_
  have : ∀ l : List PyData, (∀ d ∈ l, d.shown.length ≤ B) → ((PyData.shownAll l).map (·.length)).sum ≤ l.length * B ∧ (PyData.shownAll l).length = l.length := by
    intro l
    induction l with
    | nil => intro _; simp [PyData.shownAll]
    | cons d l ih =>
      intro h
      obtain ⟨h1, h2⟩ := ih fun d hd => h d (List.mem_cons_of_mem _ hd)
      have h3 := h d List.mem_cons_self
      simp only [PyData.shownAll, List.map_cons, List.sum_cons, List.length_cons, Nat.succ_mul]
      omega
  obtain ⟨h1, h2⟩ := this ds h
  rw [h2, Nat.mul_add]
  omega
theorem shown_tuple_le {ds : List PyData} {B : Nat} (h : ∀ d ∈ ds, d.shown.length ≤ B) : (PyData.tuple ds).shown.length ≤ ds.length * (B + 2) + 3 := by
  simp only [PyData.shown]
  refine Nat.le_trans (tupleText_len_le _) ?_
  have : ∀ l : List PyData, (∀ d ∈ l, d.shown.length ≤ B) → ((PyData.shownAll l).map (·.length)).sum ≤ l.length * B ∧ (PyData.shownAll l).length = l.length := by
    intro l
    induction l with
    | nil => intro _; simp [PyData.shownAll]
    | cons d l ih =>
      intro h
      obtain ⟨h1, h2⟩ := ih fun d hd => h d (List.mem_cons_of_mem _ hd)
      have h3 := h d List.mem_cons_self
      simp only [PyData.shownAll, List.map_cons, List.sum_cons, List.length_cons, Nat.succ_mul]
      omega
  obtain ⟨h1, h2⟩ := this ds h
  rw [h2, Nat.mul_add]
  omega
/-- small: may be shown, its text is short, it isn't deep -/
def Sm (n : Nat) (d : PyData) : Prop := d.showable = true ∧ d.shown.length ≤ 10 ^ n ∧ d.depth ≤ n
theorem depthAll_le {n : Nat} : ∀ {ds : List PyData}, (∀ d ∈ ds, d.depth ≤ n) → PyData.depthAll ds ≤ n
  | [], _ => by simp [PyData.depthAll]
  | d :: ds, h => by
    have h1 := h d List.mem_cons_self
    have h2 := depthAll_le fun d hd => h d (List.mem_cons_of_mem _ hd)
    simp only [PyData.depthAll]
    omega
theorem showAll_of {ds : List PyData} (h : ∀ d ∈ ds, d.showable = true) : PyData.showableAll ds = true := by
  induction ds with
  | nil => rfl
  | cons d ds ih =>
    simp only [PyData.showableAll, h d List.mem_cons_self, ih fun d hd => h d (List.mem_cons_of_mem _ hd), Bool.and_self]
theorem Sm.list {n : Nat} {ds : List PyData} (h : ∀ d ∈ ds, Sm n d) (hl : ds.length ≤ 3) (hn : 2 ≤ n) : Sm (n + 1) (.list ds) := by
  refine ⟨?_, ?_, ?_⟩
  · simp only [PyData.showable]
    exact showAll_of fun d hd => (h d hd).1
  · refine Nat.le_trans (shown_list_le fun d hd => (h d hd).2.1) ?_
    have h1 : 10 ^ 2 ≤ 10 ^ n := Nat.pow_le_pow_right (by decide) hn
    have h2 : ds.length * (10 ^ n + 2) ≤ 3 * (10 ^ n + 2) := Nat.mul_le_mul_right _ hl
    rw [Nat.pow_succ]
    omega
  · simp only [PyData.depth]
    have := depthAll_le fun d hd => (h d hd).2.2
    omega
theorem Sm.tuple {n : Nat} {ds : List PyData} (h : ∀ d ∈ ds, Sm n d) (hl : ds.length ≤ 3) (hn : 2 ≤ n) : Sm (n + 1) (.tuple ds) := by
  refine ⟨?_, ?_, ?_⟩
  · simp only [PyData.showable]
    exact showAll_of fun d hd => (h d hd).1
  · refine Nat.le_trans (shown_tuple_le fun d hd => (h d hd).2.1) ?_
    have h1 : 10 ^ 2 ≤ 10 ^ n := Nat.pow_le_pow_right (by decide) hn
    have h2 : ds.length * (10 ^ n + 2) ≤ 3 * (10 ^ n + 2) := Nat.mul_le_mul_right _ hl
    rw [Nat.pow_succ]
    omega
  · simp only [PyData.depth]
    have := depthAll_le fun d hd => (h d hd).2.2
    omega
theorem Sm.mono {n k : Nat} {d : PyData} (h : Sm n d) (hk : n ≤ k) : Sm k d := ⟨h.1, Nat.le_trans h.2.1 (Nat.pow_le_pow_right (by decide) hk), Nat.le_trans h.2.2 hk⟩
theorem Sm.line {n : Nat} {d : PyData} (h : Sm n d) (hn : n ≤ 7) : d.shown.length ≤ sizeLine := by
  refine Nat.le_trans h.2.1 (Nat.le_trans (Nat.pow_le_pow_right (by decide) hn) ?_)
  rw [sizeLine_eq]
  decide
theorem odd_sm {d : PyData} (h : d ∈ odd1 ++ odd2) : Sm 3 d := by
  obtain ⟨h1, h2, h3⟩ := odd_all d h
  exact ⟨h1, Nat.le_trans h2 (by decide), h3⟩
theorem name_sm : ∀ x ∈ all14, Sm 3 (.str x) := by
  have h : ∀ x ∈ all14, (PyData.str x).showable = true ∧ (PyData.str x).shown.length ≤ 1000 ∧ (PyData.str x).depth ≤ 3 := by decide +kernel
  intro x hx
  obtain ⟨h1, h2, h3⟩ := h x hx
  exact ⟨h1, h2, h3⟩
section
variable {P : Program} {w : World} {K : PySem.W.Frag} {mg : Str → Option Value} {base : Heap} {f : Addr} {fd : FuncData}
/-- two that are the same -/
def spAlike (K : PySem.W.Frag) : Sp := fun vs H Q _ => ∃ (a b : Addr) (xs ys : List V) (n : Nat) (d : PyData), vs = [.ref a, .ref b] ∧ n ≤ 40 ∧ ((SqL K H a xs ∧ SqL K H b ys) ∨ (SqT K H a xs ∧ SqT K H b ys)) ∧ Paired (EqS K H n) xs ys ∧
  Dq K H (.ref a) d ∧ Dq K H (.ref b) d ∧ d.showable = true ∧ d.shown.length ≤ sizeLine ∧ d.depth ≤ 60 ∧ Q (.bl true) H
theorem ok_alike (F : FnP K "_law_alike" 20 f fd) (T : Txt K mg) (hS : SysD K) : FnG P w K mg base CX0 1 f fd ["found", "due"] (spAlike K) := by
  refine Ly.FunD.okG F scAlike (fun vs H Q E h => ?_) (fun cd A outer s H vs Q E hG hr h => ?_)
  · obtain ⟨a, b, xs, ys, n, d, rfl, _⟩ := h
    rfl
  · obtain ⟨a, b, xs, ys, n, d, rfl, hn, hs, hp, da, db, h1, h2, h3, hQ⟩ := h
    refine ⟨_, PSs.nox (pss_one (ps_ret (pe_and (pe_cmpR (op_eqS hr) (pv 0) (pv 1) (nomark _)) (pe_one (pe_cmpR op_eq (pe_callB (call_reprD hS hG hr) (by rfl) (T.free "repr" (by decide)) (by decide +kernel) (pa_cons (pv 0) pa_nil))
      (pe_callB (call_reprD hS hG hr) (by rfl) (T.free "repr" (by decide)) (by decide +kernel) (pa_cons (pv 1) pa_nil)) (nomark _)))))), ?_⟩
    refine ⟨_, rfl, _, rfl, a, b, xs, ys, n, rfl, rfl, hn, hs, hp, true, rfl, iteT ?_⟩
    refine ⟨_, rfl, a, d, rfl, da, h1, h2, h3, _, rfl, b, d, rfl, db, h1, h2, h3, rfl, ?_⟩
    rw [decide_eq_true rfl]
    exact hQ
def spLaw (K : PySem.W.Frag) : Sp := fun vs H Q _ => ∃ (a : Addr) (ns : List Int), vs = [.ref a] ∧ SqL K H a (ns.map V.int) ∧ ns.length ≤ 63 ∧ ∀ H', Q (.bl true) H'
theorem ok_law {fB fA fO fM fBk fI fS fT fR fP : Addr} {dB dA dO dM dBk dI dS dT dR dP : FuncData} (F : FnP K "law" 27 f fd) (T : Txt K mg) (hS : SysD K)
    (FB : FnP K "_law_bag" 17 fB dB) (gB : mg "_law_bag" = some (.ref fB)) (FA : FnP K "_law_alike" 20 fA dA) (gA : mg "_law_alike" = some (.ref fA))
    (FO : FnP K "_law_odd" 21 fO dO) (gO : mg "_law_odd" = some (.ref fO)) (FM : FnP K "_law_met" 24 fM dM) (gM : mg "_law_met" = some (.ref fM))
    (FBk : FnP K "_law_met_back" 25 fBk dBk) (gBk : mg "_law_met_back" = some (.ref fBk)) (FI : FnP K "_law_is_tile_error" 26 fI dI) (gI : mg "_law_is_tile_error" = some (.ref fI))
    (FS : FnP K "_law_some" 19 fS dS) (gS : mg "_law_some" = some (.ref fS)) (FT : FnP K "_law_take" 18 fT dT) (gT : mg "_law_take" = some (.ref fT))
    (FR : FnP K "_law_raise" 23 fR dR) (gR : mg "_law_raise" = some (.ref fR)) (FP : FnP K "_law_raise_plain" 22 fP dP) (gP : mg "_law_raise_plain" = some (.ref fP)) :
    FnG P w K mg base CX0 6 f fd ["script"] (spLaw K) := by
  have GB : FnOk P w K mg base CX0 1 fB dB ["script"] (spBag K) := ok_bag FB (T.free "abs" (by decide))
  have GA : FnG P w K mg base CX0 1 fA dA ["found", "due"] (spAlike K) := ok_alike FA T hS
  have GO : FnOk P w K mg base CX0 3 fO dO ["bag"] (spOdd K) := ok_odd FO FS gS FT gT (T.free "int" (by decide)) (T.free "len" (by decide))
  have GM : FnOk P w K mg base CX0 5 fM dM ["name", "one", "other"] spMet := ok_met FM FR gR FP gP T
  have GBk : FnOk P w K mg base CX0 5 fBk dBk ["name", "one", "other"] spBack := ok_back FBk FR gR FP gP T
  have GI : FnOk P w K mg base CX0 5 fI dI ["name", "one", "other"] spIsT := ok_isT FI FR gR FP gP T
  have bB : Binds K dB ["script"] [] := FB.bindsN fun _ _ _ _ _ _ us hl => match us, hl with | [_], _ => rfl
  have bA : Binds K dA ["found", "due"] [] := FA.bindsN fun _ _ _ _ _ _ us hl => match us, hl with | [_, _], _ => rfl
  have bO : Binds K dO ["bag"] [] := FO.bindsN fun _ _ _ _ _ _ us hl => match us, hl with | [_], _ => rfl
  have bM : Binds K dM ["name", "one", "other"] [] := FM.bindsN fun _ _ _ _ _ _ us hl => match us, hl with | [_, _, _], _ => rfl
  have bBk : Binds K dBk ["name", "one", "other"] [] := FBk.bindsN fun _ _ _ _ _ _ us hl => match us, hl with | [_, _, _], _ => rfl
  have bI : Binds K dI ["name", "one", "other"] [] := FI.bindsN fun _ _ _ _ _ _ us hl => match us, hl with | [_, _, _], _ => rfl
  refine Ly.FunD.okG F scLaw (fun vs H Q E h => ?_) (fun cd A outer s H vs Q E hG hr h => ?_)
  · obtain ⟨a, ns, rfl, _⟩ := h
    rfl
  · obtain ⟨a, ns, rfl, hA, hl, hQ⟩ := h
    have r1 : Room 1 _ := hr.mono (by decide)
    have r3 : Room 3 _ := hr.mono (by decide)
    have hu := hu_of hr
    refine ⟨_, PSs.nox (pss_cons (ps_set (i := 1) scLaw.nd rfl (.inl rfl) (pe_call GB r1 (by rfl) gB FB.kp bB .nil pass0 (pa_cons (pv 0) pa_nil)))
      (pss_cons (ps_set (i := 2) scLaw.nd rfl (.inl rfl) (pe_disp (pps_cons pe_str pe_int (pps_cons pe_str pe_int (pps_cons pe_str pe_int (pps_cons pe_str pe_int (pps_cons pe_str pe_int (pps_cons pe_str pe_int (pps_cons pe_str pe_int pps_nil))))))) rfl rfl (by simp) (by decide)))
      (pss_cons (ps_expr (pe_bm PySem.F.plainAttrs_dict PySem.F.slot_dict_update PySem.F.type_dict_update mt_upd (pv 2) (pa_cons (pe_disp (pps_cons pe_str pe_int (pps_cons pe_str pe_int (pps_cons pe_str pe_int (pps_cons pe_str pe_int (pps_cons pe_str pe_int (pps_cons pe_str pe_int (pps_cons pe_str pe_int pps_nil))))))) rfl rfl (by simp) (by decide)) pa_nil)))
      (pss_cons (ps_for PassesOwn.never rfl (pi_list (pe_callB (call_sortedD rfl) (by rfl) (T.free "sorted" (by decide)) (by decide +kernel) (pa_cons (pv 2) pa_nil))) (pg_name (i := 3) scLaw.nd rfl (.inl rfl)) (pss_cons (ps_for PassesOwn.never rfl (pi_range1 rfl (T.free "range" (by decide)) (pa_cons pe_int pa_nil)) (pg_name (i := 4) scLaw.nd rfl (.inl rfl)) (pss_cons (ps_par (i := 5) (j := 6) rfl scLaw.nd rfl rfl (by decide) rfl rfl (pa_cons (pe_call GO r3 (by rfl) gO FO.kp bO .nil pass0 (pa_cons (pv 1) pa_nil)) (pa_cons (pe_call GO r3 (by rfl) gO FO.kp bO .nil pass0 (pa_cons (pv 1) pa_nil)) pa_nil)) (by rfl))
      (pss_cons (ps_par (i := 7) (j := 8) rfl scLaw.nd rfl rfl (by decide) rfl rfl (pa_cons (pe_callB (call_reprD hS hG hr) (by rfl) (T.free "repr" (by decide)) (by decide +kernel) (pa_cons (pe_lst (pa_cons (pv 5) (pa_cons (pv 6) pa_nil))) pa_nil)) (pa_cons (pe_slice sl_list (pe_lst (pa_cons (pv 5) (pa_cons (pv 6) pa_nil))) po_none (po_some (pe_dget hu (pv 2) (pv 3) (fun _ _ => rfl)))) pa_nil)) (by rfl))
      (pss_cons (ps_if (PW.pt (pw_or (pt_not (pt_val (pe_callG GA hG r1 (by rfl) gA FA.kp bA .nil pass0 (pa_cons (pe_call GM hr (by rfl) gM FM.kp bM .nil pass0 (pa_cons (pv 3) (pa_cons (pv 5) (pa_cons (pv 6) pa_nil)))) (pa_cons (pe_tup (pa_cons (pv 3) (pa_cons (pv 8) pa_nil))) pa_nil))))) (pw_or1 (pt_cmpR op_ne (pe_call GBk hr (by rfl) gBk FBk.kp bBk .nil pass0 (pa_cons (pv 3) (pa_cons (pv 5) (pa_cons (pv 6) pa_nil)))) (pv 3) (nomark _))))) (pss_one (ps_ret pe_bl)) pss_nil)
      (pss_one (ps_if (PW.pt (pw_or (pt_not (pt_val (pe_call GI hr (by rfl) gI FI.kp bI .nil pass0 (pa_cons (pv 3) (pa_cons (pv 5) (pa_cons (pv 6) pa_nil)))))) (pw_or1 (pt_cmpR op_ne (pe_callB (call_reprD hS hG hr) (by rfl) (T.free "repr" (by decide)) (by decide +kernel) (pa_cons (pe_lst (pa_cons (pv 5) (pa_cons (pv 6) pa_nil))) pa_nil)) (pv 7) (nomark _))))) (pss_one (ps_ret pe_bl)) pss_nil))))))
      (pss_cons (ps_par (i := 9) (j := 10) rfl scLaw.nd rfl rfl (by decide) rfl rfl (pa_cons (pe_lst (pa_cons pe_int pa_nil)) (pa_cons (pe_lst (pa_cons pe_int pa_nil)) pa_nil)) (by rfl))
      (pss_cons (ps_set (i := 11) scLaw.nd rfl (.inl rfl) (pe_ix ix_tup (pe_call GM hr (by rfl) gM FM.kp bM .nil pass0 (pa_cons (pv 3) (pa_cons (pv 9) (pa_cons (pv 10) pa_nil)))) pe_int (fun _ _ => rfl)))
      (pss_cons (ps_expr (pe_bm PySem.F.plainAttrs_list PySem.F.slot_list_append PySem.F.type_list_append mt_append (pv 9) (pa_cons pe_str pa_nil)))
      (pss_cons (ps_expr (pe_bm PySem.F.plainAttrs_list PySem.F.slot_list_append PySem.F.type_list_append mt_append (pv 10) (pa_cons pe_str pa_nil)))
      (pss_one (ps_if (pt_not (pt_val (pe_callG GA hG r1 (by rfl) gA FA.kp bA .nil pass0 (pa_cons (pv 11) (pa_cons (pe_slice sl_list (pe_lst (pa_cons (pv 9) (pa_cons (pv 10) pa_nil))) po_none (po_some (pe_dget hu (pv 2) (pv 3) (fun _ _ => rfl)))) pa_nil))))) (pss_one (ps_ret pe_bl)) pss_nil))))))))
      (pss_one (ps_ret pe_bl)))))), ?_⟩
    -- bag = _law_bag(script)
    refine ⟨.ref a, rfl, a, ns, rfl, hA, hl, fun b H1 s1 n1 b1 => ?_⟩
    -- many
    refine fun m hm => ⟨upd_same, kn1.map ent, rfl, by decide, ?_⟩
    have e1 : mergeK [] (kn1.map ent) = kn1.map ent := rfl
    have e2 : mergeK [] (kn2.map ent) = kn2.map ent := rfl
    have e3 : mergeK (kn1.map ent) (kn2.map ent) = manyK := rfl
    rw [upd_upd, e1]
    have b2 : IsBag (upd H1 m (.dK (kn1.map ent))) b := b1.new hm
    refine ⟨.ref m, rfl, .inr (.inr (.inl ⟨rfl, .inl ⟨_, upd_same⟩⟩)), fun o ho => ⟨upd_same, kn2.map ent, rfl, by decide, ?_⟩⟩
    have nmo : m ≠ o := ne_of_none upd_same ho
    rw [upd_upd, e2]
    refine ⟨m, o, kn1.map ent, kn2.map ent, rfl, rfl, nmo, by rw [upd_ne nmo, upd_same], upd_same, by decide, by decide, ?_⟩
    rw [e3]
    have b3 : IsBag (upd (upd (upd H1 m (.dK (kn1.map ent))) o (.dK (kn2.map ent))) m (.dK manyK)) b := by
      obtain ⟨q, x0, x1, x2, ms, hB⟩ := b2.new (o := .dK (kn2.map ent)) ho
      refine ⟨q, x0, x1, x2, ms, ?_, ?_, hB.n0, hB.n1, hB.n2, hB.few⟩
      · rw [upd_ne (ne_of hB.top (show (upd (upd H1 m (.dK (kn1.map ent))) o (.dK (kn2.map ent))) m = some (.dK (kn1.map ent)) from by rw [upd_ne nmo, upd_same]) (by simp))]
        exact hB.top
      · rw [upd_ne (ne_of hB.cells (show (upd (upd H1 m (.dK (kn1.map ent))) o (.dK (kn2.map ent))) m = some (.dK (kn1.map ent)) from by rw [upd_ne nmo, upd_same]) (by simp))]
        exact hB.cells
    have m3 : (upd (upd (upd H1 m (.dK (kn1.map ent))) o (.dK (kn2.map ent))) m (.dK manyK)) m = some (.dK manyK) := upd_same
    generalize upd (upd (upd H1 m (.dK (kn1.map ent))) o (.dK (kn2.map ent))) m (.dK manyK) = H3 at b3 m3 ⊢
    -- the names in order
    refine ⟨.ref m, rfl, m, manyK, kn1 ++ kn2, rfl, .inl m3, rfl, by decide, fun ys l perm _ hl2 => ⟨l, rfl, ⟨_, .inl (.inl upd_same)⟩, for_list (K := K) (xs := ys.map V.str)
      (fun _ σ H => (∃ y3 y4 y5 y6 y7 y8 y9 y10 y11, σ = [some (.ref a), some (.ref b), some (.ref m), y3, y4, y5, y6, y7, y8, y9, y10, y11]) ∧ Std b m l ys H)
      ⟨⟨_, _, _, _, _, _, _, _, _, rfl⟩, b3.new hl2, same_new hl2 _ _ m3, upd_same⟩ (fun i σ H _ h => .inl (.inl h.2.lst)) ?_ ?_⟩⟩
    rotate_left
    · exact fun σ H _ => hQ _
    rintro i x σ H4 hx ⟨⟨y3, y4, y5, y6, y7, y8, y9, y10, y11, rfl⟩, hS4⟩
    obtain ⟨nm, hn, rfl⟩ : ∃ nm ∈ ys, x = V.str nm := by
      have z := List.mem_of_getElem? hx
      obtain ⟨nm, h1, h2⟩ := List.mem_map.mp z
      exact ⟨nm, h1, h2.symm⟩
    have hk : nm ∈ kn1 ++ kn2 := perm.mem_iff.mp hn
    have h14 : nm ∈ all14 := kn_all nm hk
    have hv := many_at nm hk
    -- three turns
    refine ⟨3, rfl, by decide, by decide, for_range (n := 3) (fun _ σ H => (∃ y4 y5 y6 y7 y8 y9 y10 y11, σ = [some (.ref a), some (.ref b), some (.ref m), some (.str nm), y4, y5, y6, y7, y8, y9, y10, y11]) ∧ Std b m l ys H)
      ⟨⟨_, _, _, _, _, _, _, _, rfl⟩, hS4⟩ ?_ ?_⟩
    · rintro j σ H5 hj ⟨⟨z4, z5, z6, z7, z8, z9, z10, z11, rfl⟩, hS5⟩
      refine ⟨.ref b, rfl, b, rfl, hS5.bag, fun v1 H6 o1 k6 b6 => ⟨.ref b, rfl, b, rfl, b6, fun v2 H7 o2 k7 b7 => ⟨v1, v2, rfl, ?_⟩⟩⟩
      have hS7 := hS5.kp (k6.trans k7) b7
      obtain ⟨d1, m1, q1⟩ := o1
      obtain ⟨d2, m2, q2⟩ := o2
      have q1 := q1.mono (del_same_of k7)
      have g1 : Dq K H7 v1 d1 := q1.mono hid_sub
      have g2 : Dq K H7 v2 d2 := q2.mono hid_sub
      have gs : DqA K H7 [v1, v2] [d1, d2] := .cons g1 (.cons g2 .nil)
      have sm12 : ∀ d ∈ [d1, d2], Sm 3 d := by
        intro d hd
        simp only [List.mem_cons, List.not_mem_nil, or_false] at hd
        rcases hd with rfl | rfl
        · exact odd_sm m1
        · exact odd_sm m2
      have smL : Sm 4 (.list [d1, d2]) := Sm.list sm12 (by simp) (by decide)
      refine ⟨_, rfl, _, rfl, few_line (by simp), fun q hq => ⟨q, _, rfl, .lst (.inl (.inl upd_same)) (gs.mono (same_new hq)), smL.1, smL.line (by decide), Nat.le_trans smL.2.2 (by decide), ?_⟩⟩
      have hS8 := hS7.same (same_new (o := .lst [v1, v2]) hq)
      have gs8 := gs.mono (same_new (o := .lst [v1, v2]) hq)
      generalize upd H7 q (.lst [v1, v2]) = H8 at hS8 gs8 ⊢
      refine ⟨_, rfl, _, rfl, few_line (by simp), fun r hr2 => ⟨_, rfl, _, rfl, m, .int (mny nm), rfl, ?_, _, rfl, r, _, rfl, .inl (.inl upd_same), fun t ht => ?_⟩⟩
      · have z := DGet.k (k := Sum.inr nm) (hS8.same (same_new (o := .lst [v1, v2]) hr2)).dic
        rw [hv] at z
        exact z
      rw [cut_take]
      have sm8 : Same H8 (upd (upd H8 r (.lst [v1, v2])) t (.lst ([v1, v2].take (mny nm)))) := (same_new hr2).trans (same_new ht)
      have hS9 := hS8.same sm8
      have gs9 := gs8.mono sm8
      have ht9 : (upd (upd H8 r (.lst [v1, v2])) t (.lst ([v1, v2].take (mny nm)))) t = some (.lst ([v1, v2].take (mny nm))) := upd_same
      generalize upd (upd H8 r (.lst [v1, v2])) t (.lst ([v1, v2].take (mny nm))) = H9 at hS9 gs9 ht9 ⊢
      refine ⟨_, _, rfl, _, rfl, _, rfl, _, rfl, nm, v1, v2, rfl, h14, fun p lp H10 s10 np nl npl hp hlp => ⟨_, rfl, _, rfl, few_line (by simp), fun t2 ht2 => ?_⟩⟩
      have sA : Same H9 (upd H10 t2 (.tup [.str nm, .ref t])) := s10.trans (same_new ht2)
      have hS11 := hS9.same sA
      have gs11 := gs9.mono sA
      have ht11 := sA _ _ ht9
      have hp11 := same_new (o := .tup [.str nm, .ref t]) ht2 _ _ hp
      have hl11 := same_new (o := .tup [.str nm, .ref t]) ht2 _ _ hlp
      have e11 : (upd H10 t2 (.tup [.str nm, .ref t])) t2 = some (.tup [.str nm, .ref t]) := upd_same
      generalize upd H10 t2 (.tup [.str nm, .ref t]) = H11 at hS11 gs11 ht11 hp11 hl11 e11 ⊢
      have ntl : lp ≠ t := by
        rintro rfl
        rw [ht9] at nl
        cases nl
      refine ⟨p, t2, [.str nm, .ref lp], [.str nm, .ref t], 1, .tuple [.str nm, .list ([d1, d2].take (mny nm))], rfl, by decide, .inr ⟨.inl (.inl hp11), .inl (.inl e11)⟩,
        .cons (.inl (.inl ⟨rfl, rfl⟩)) (.cons (.inr ⟨lp, t, _, _, rfl, rfl, ntl, .inl ⟨.inl (.inl hl11), .inl (.inl ht11)⟩, paired_refl 0 (dqa_take _ gs11)⟩) .nil),
        .tup (.inl (.inl hp11)) (.cons (.str nm) (.cons (.lst (.inl (.inl hl11)) (dqa_take _ gs11)) .nil)), .tup (.inl (.inl e11)) (.cons (.str nm) (.cons (.lst (.inl (.inl ht11)) (dqa_take _ gs11)) .nil)), ?_⟩
      have smT : Sm 5 (.tuple [.str nm, .list ([d1, d2].take (mny nm))]) := by
        refine Sm.tuple (fun d hd => ?_) (by simp) (by decide)
        simp only [List.mem_cons, List.not_mem_nil, or_false] at hd
        rcases hd with rfl | rfl
        · exact (name_sm nm h14).mono (by decide)
        · exact Sm.list (fun d hd => sm12 d (List.mem_of_mem_take hd)) (by simp; omega) (by decide)
      refine ⟨smT.1, smT.line (by decide), Nat.le_trans smT.2.2 (by decide), true, rfl, iteF ?_⟩
      refine ⟨_, rfl, _, rfl, _, rfl, nm, v1, v2, rfl, h14, fun H12 s12 => ⟨_, rfl, rfl, _, rfl, iteNS rfl ?_⟩⟩
      refine ⟨_, rfl, _, rfl, _, rfl, nm, v1, v2, rfl, h14, fun H13 s13 => ⟨true, rfl, iteF ?_⟩⟩
      have sB : Same H11 H13 := s12.trans s13
      have gs13 := gs11.mono sB
      refine ⟨_, rfl, _, rfl, few_line (by simp), fun u hu2 => ⟨u, _, rfl, .lst (.inl (.inl upd_same)) (gs13.mono (same_new hu2)), smL.1, smL.line (by decide), Nat.le_trans smL.2.2 (by decide), ?_⟩⟩
      refine ⟨_, rfl, rfl, _, rfl, iteNS rfl ?_⟩
      exact ⟨⟨_, _, _, _, _, _, _, _, rfl⟩, hS11.same (sB.trans (same_new hu2))⟩
    · rintro σ H5 ⟨⟨z4, z5, z6, z7, z8, z9, z10, z11, rfl⟩, hS5⟩
      have nmn : mny nm ≤ 2 := mny_le nm
      refine ⟨few_line (by simp), fun o1 ho1 => ⟨few_line (by simp), fun o2 ho2 => ⟨_, _, rfl, ?_⟩⟩⟩
      have n12 : o1 ≠ o2 := ne_of_none upd_same ho2
      have sA : Same H5 (upd (upd H5 o1 (.lst [.int 1])) o2 (.lst [.int 2])) := (same_new ho1).trans (same_new ho2)
      have hS6 := hS5.same sA
      have f1 : (upd (upd H5 o1 (.lst [.int 1])) o2 (.lst [.int 2])) o1 = some (.lst [.int 1]) := by rw [upd_ne n12, upd_same]
      have f2 : (upd (upd H5 o1 (.lst [.int 1])) o2 (.lst [.int 2])) o2 = some (.lst [.int 2]) := upd_same
      generalize upd (upd H5 o1 (.lst [.int 1])) o2 (.lst [.int 2]) = H6 at sA hS6 f1 f2 ⊢
      refine ⟨_, rfl, _, rfl, _, rfl, nm, .ref o1, .ref o2, rfl, h14, fun p lp H7 s7 np nl npl hp hlp => ⟨p, _, 1, .ref lp, rfl, rfl, .inl (.inl hp), rfl, ?_⟩⟩
      have hS7 := hS6.same s7
      have g1 := s7 _ _ f1
      have g2 := s7 _ _ f2
      have nl1 : lp ≠ o1 := by
        rintro rfl
        rw [f1] at nl
        cases nl
      have nl2 : lp ≠ o2 := by
        rintro rfl
        rw [f2] at nl
        cases nl
      refine ⟨_, rfl, .inl ⟨rfl, _, .inl (.inl g1)⟩, o1, _, _, rfl, rfl, g1, few_line (by simp), ?_⟩
      have n13 : p ≠ o1 := by
        rintro rfl
        rw [f1] at np
        cases np
      have n23 : p ≠ o2 := by
        rintro rfl
        rw [f2] at np
        cases np
      have g2' : (upd H7 o1 (.lst ([.int 1] ++ [.str "more"]))) o2 = some (.lst [.int 2]) := by rw [upd_ne n12.symm, g2]
      refine ⟨_, rfl, .inl ⟨rfl, _, .inl (.inl g2')⟩, o2, _, _, rfl, rfl, g2', few_line (by simp), ?_⟩
      have hne : ∀ c, H5 c ≠ none → c ≠ o1 ∧ c ≠ o2 := fun c hc => ⟨fun e => hc (e ▸ ho1), fun e => hc (Same.free (same_new ho1) (e ▸ ho2))⟩
      have sB : Same H5 (upd (upd H7 o1 (.lst ([.int 1] ++ [.str "more"]))) o2 (.lst ([.int 2] ++ [.str "less"]))) := by
        intro c x hc
        obtain ⟨c1, c2⟩ := hne c (by rw [hc]; simp)
        rw [upd_ne c2, upd_ne c1]
        exact s7 _ _ (sA _ _ hc)
      have hS8 := hS5.same sB
      have i1 : (upd (upd H7 o1 (.lst ([.int 1] ++ [.str "more"]))) o2 (.lst ([.int 2] ++ [.str "less"]))) o1 = some (.lst [.int 1, .str "more"]) := by rw [upd_ne n12, upd_same]; rfl
      have i2 : (upd (upd H7 o1 (.lst ([.int 1] ++ [.str "more"]))) o2 (.lst ([.int 2] ++ [.str "less"]))) o2 = some (.lst [.int 2, .str "less"]) := by rw [upd_same]; rfl
      have i3 : (upd (upd H7 o1 (.lst ([.int 1] ++ [.str "more"]))) o2 (.lst ([.int 2] ++ [.str "less"]))) lp = some (.lst (List.take (mny nm) [.ref o1, .ref o2])) := by rw [upd_ne nl2, upd_ne nl1, hlp]
      generalize upd (upd H7 o1 (.lst ([.int 1] ++ [.str "more"]))) o2 (.lst ([.int 2] ++ [.str "less"])) = H8 at hS8 i1 i2 i3 ⊢
      refine ⟨_, rfl, _, rfl, _, rfl, few_line (by simp), fun r hr2 => ⟨_, rfl, _, rfl, m, .int (mny nm), rfl, ?_, _, rfl, r, _, rfl, .inl (.inl upd_same), fun t ht => ?_⟩⟩
      · have z := DGet.k (k := Sum.inr nm) (hS8.same (same_new (o := .lst [.ref o1, .ref o2]) hr2)).dic
        rw [hv] at z
        exact z
      rw [cut_take]
      have sm8 : Same H8 (upd (upd H8 r (.lst [.ref o1, .ref o2])) t (.lst ([.ref o1, .ref o2].take (mny nm)))) := (same_new hr2).trans (same_new ht)
      have hS9 := hS8.same sm8
      have j1 := sm8 _ _ i1
      have j2 := sm8 _ _ i2
      have j3 := sm8 _ _ i3
      have j4 : (upd (upd H8 r (.lst [.ref o1, .ref o2])) t (.lst ([.ref o1, .ref o2].take (mny nm)))) t = some (.lst ([.ref o1, .ref o2].take (mny nm))) := upd_same
      have ntl : lp ≠ t := by
        rintro rfl
        have := Same.free (same_new hr2) ht
        rw [i3] at this
        cases this
      generalize upd (upd H8 r (.lst [.ref o1, .ref o2])) t (.lst ([.ref o1, .ref o2].take (mny nm))) = H9 at hS9 j1 j2 j3 j4 ⊢
      have q1 : Dq K H9 (.ref o1) (.list [.int 1, .str "more"]) := .lst (.inl (.inl j1)) (.cons (.int 1) (.cons (.str "more") .nil))
      have q2 : Dq K H9 (.ref o2) (.list [.int 2, .str "less"]) := .lst (.inl (.inl j2)) (.cons (.int 2) (.cons (.str "less") .nil))
      have qs : DqA K H9 [.ref o1, .ref o2] [.list [.int 1, .str "more"], .list [.int 2, .str "less"]] := .cons q1 (.cons q2 .nil)
      have smo : ∀ d ∈ [PyData.list [.int 1, .str "more"], .list [.int 2, .str "less"]], Sm 3 d := by
        have h : ∀ d ∈ [PyData.list [.int 1, .str "more"], .list [.int 2, .str "less"]], d.showable = true ∧ d.shown.length ≤ 1000 ∧ d.depth ≤ 3 := by decide +kernel
        exact fun d hd => ⟨(h d hd).1, (h d hd).2.1, (h d hd).2.2⟩
      have smT : Sm 4 (.list ([PyData.list [.int 1, .str "more"], .list [.int 2, .str "less"]].take (mny nm))) := Sm.list (fun d hd => smo d (List.mem_of_mem_take hd)) (by simp; omega) (by decide)
      refine ⟨lp, t, _, _, 0, _, rfl, by decide, .inl ⟨.inl (.inl j3), .inl (.inl j4)⟩, paired_refl 0 (dqa_take _ qs), .lst (.inl (.inl j3)) (dqa_take _ qs), .lst (.inl (.inl j4)) (dqa_take _ qs),
        smT.1, smT.line (by decide), Nat.le_trans smT.2.2 (by decide), true, rfl, iteF ?_⟩
      exact ⟨⟨_, _, _, _, _, _, _, _, _, rfl⟩, hS9⟩
end
end K00

open PySem PySem.W PySem.Calls PyProof.Rows
theorem PySem.Challenge.cw_laidanyhow_k00_errors_of_any_values_holds : PySem.Challenge.rw_laidanyhow_k00_errors_of_any_values.Holds := by
  w_on; o_law
  refine HandSHeadRun.head_any (r := OpenLaw.row PySem.Challenge.rw_laidanyhow_k00_errors_of_any_values) (q := view (OpenLaw.row PySem.Challenge.rw_laidanyhow_k00_errors_of_any_values).prog [27]) (H := K00.hk) (ob := K00.ob) (M := 5000)
    (loose := K00.loose) (d := HandSHeadRun.topDef (OpenLaw.row PySem.Challenge.rw_laidanyhow_k00_errors_of_any_values).prog 27) (kwd := []) K00.ob_eq
    (by kernel_rfl) (fun s => by kernel_rfl) K00.run (by kernel_rfl) (by kernel_rfl) (by kernel_rfl) (by rfl) (by first | assumption | decide +kernel) (by decide +kernel) ⟨rfl, rfl, rfl, rfl, rfl, by decide +kernel⟩ ?hw ?hc
  case hw => w_witness2
  case hc =>
    refine Ly.walkG (l := PySem.Challenge.rw_laidanyhow_k00_errors_of_any_values) (n := 63) (k := 6) (x := "script") (CX := fun _ => L2.CX0) rfl (by decide) (by kernel_rfl) ⟨rfl, by decide, by decide⟩ ?F (fun _ _ _ _ _ z => z)
    intro w mg fa h Y G hmg0
    obtain ⟨K, KX, c⟩ := Y
    have hmg : mg ("law" : PySem.Str) = some (.ref fa) := by
      have e : (HandSHeadRun.topDef (OpenLaw.row PySem.Challenge.rw_laidanyhow_k00_errors_of_any_values).prog 27).name = ("law" : PySem.Str) := by kernel_rfl
      rw [← e]
      exact hmg0
    have T := K00.txt_of KX G c
    have e := hmg.symm.trans (T.glo "law" (by decide))
    cases e
    obtain ⟨fd, F⟩ := T.fun_ "law" 27 (by decide)
    obtain ⟨_, FB⟩ := T.fun_ "_law_bag" 17 (by decide)
    obtain ⟨_, FA⟩ := T.fun_ "_law_alike" 20 (by decide)
    obtain ⟨_, FO⟩ := T.fun_ "_law_odd" 21 (by decide)
    obtain ⟨_, FM⟩ := T.fun_ "_law_met" 24 (by decide)
    obtain ⟨_, FK⟩ := T.fun_ "_law_met_back" 25 (by decide)
    obtain ⟨_, FI⟩ := T.fun_ "_law_is_tile_error" 26 (by decide)
    obtain ⟨_, FS⟩ := T.fun_ "_law_some" 19 (by decide)
    obtain ⟨_, FT⟩ := T.fun_ "_law_take" 18 (by decide)
    obtain ⟨_, FR⟩ := T.fun_ "_law_raise" 23 (by decide)
    obtain ⟨_, FP⟩ := T.fun_ "_law_raise_plain" 22 (by decide)
    refine ⟨K, fd, K00.spLaw K, KX, fun s v => L2.FunD.bindsA (ps := ["script"]) F (fun _ _ _ _ _ _ us hl => match us, hl with | [_], _ => rfl) s [v] rfl, fun H a ns hl _ hS => ⟨a, ns, rfl, hS, hl, fun _ => rfl⟩, fun base _ _ =>
      K00.ok_law F T c.sys FB (T.glo _ (by decide)) FA (T.glo _ (by decide)) FO (T.glo _ (by decide)) FM (T.glo _ (by decide)) FK (T.glo _ (by decide)) FI (T.glo _ (by decide)) FS (T.glo _ (by decide)) FT (T.glo _ (by decide)) FR (T.glo _ (by decide)) FP (T.glo _ (by decide))⟩
