"""The macros that are there ahead of each text, written in the language itself."""

PRELUDE = (
    "(macro let () ((let ((x e) ...) b ...) ((fn (x ...) b ...) e ...)))\n"
    "(macro letrec () ((letrec ((x e) ...) b ...) ((fn (x ...) (set x e) ... b ...) (quote x) ...)))\n"
    "(macro loop () ((loop f ((x e) ...) b ...) (((fn (f) (set f (fn (x ...) b ...)) f) none) e ...)))\n"
    "(macro and () ((and) yes) ((and e) e) ((and e f ...) (if e (and f ...) no)))\n"
    "(macro or () ((or) no) ((or e) e) ((or e f ...) ((fn (t) (if t t (or f ...))) e)))\n"
    "(macro when () ((when e b ...) (if e (do b ...) none)))\n"
    "(macro cond (else) ((cond) none) ((cond (else b ...)) (do b ...))"
    " ((cond (e b ...) c ...) (if e (do b ...) (cond c ...))))\n"
    "(macro while () ((while e b ...) ((fn (go) (set go (fn () (if e (do b ... (go)) none))) (go)) none)))"
)
