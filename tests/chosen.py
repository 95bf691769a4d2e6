"""Pairs of readers on which the shortest rows are hard to tell: found by searching for small faults in the program."""

PAIRS = (
    (
        "a: take b\nb: case 0 d else c\nc: rest 2 b\nd: skip 2 f\ne: refuse\nf: cut",
        "a: take b\nb: skip -1 e\nc: case 1 c else d\nd: case 0 e 1 e else e\ne: case 0 f 1 c else g\n"
        "f: refuse\ng: cut",
    ),
    (
        "a: take b\nb: skip -1 d\nc: case 0 d 1 e else d\nd: case else c\ne: refuse\nf: cut",
        "a: take b\nb: jump 1 c\nc: case 1 d 2 g 0 f else g\nd: jump 2 e\ne: take b\nf: skip 2 h\ng: refuse\n"
        "h: cut",
    ),
    (
        "a: take b\nb: upto 2 e else c\nc: case 0 d 2 d 1 d else b\nd: skip 0 f\ne: refuse\nf: cut",
        "a: take b\nb: case 0 b 1 c 2 c else b\nc: skip 0 e\nd: refuse\ne: cut",
    ),
    (
        "a: take b\nb: upto 2 g else c\nc: case 1 f else g\nf: skip -1 h\nd: take f\n"
        "e: case 2 g 0 g 1 h else g\ng: refuse\nh: cut",
        "a: take b\nb: case 2 b 1 b 0 d else e\nd: skip 2 c\nc: case 1 f 2 f else e\ne: refuse\nf: cut",
    ),
    (
        "a: take b\nb: upto 2 g else c\nc: case 2 f 0 d else g\nd: case 1 g 0 d 2 d else g\nf: skip 3 h\n"
        "e: case 1 g 0 h 2 h else g\ng: refuse\nh: cut",
        "a: take b\nb: skip 2 c\nc: jump 3 c\nd: refuse\ne: cut",
    ),
    (
        "a: take b\nb: skip 2 c\nc: jump 2 c\nd: refuse\ne: cut",
        "a: take b\nb: jump 1 c\nc: upto 1 f else d\nd: case 0 b 1 e else f\ne: skip 2 g\nf: refuse\ng: cut",
    ),
    (
        "a: take b\nb: case 1 c else f\nc: case 1 f 0 e else f\ne: skip -2 d\nd: case 1 g 0 f else f\n"
        "f: refuse\ng: cut",
        "a: take b\nb: skip -2 d\nc: refuse\nd: cut",
    ),
    (
        "a: take b\nb: case 0 c else c\nc: case 0 d else e\nd: skip -2 f\ne: refuse\nf: cut",
        "a: take b\nb: skip -2 c\nc: take b\nd: case else g\ne: take b\nf: refuse\ng: cut",
    ),
    (
        "a: take b\nb: case 0 c else d\nc: skip 2 e\nd: refuse\ne: cut",
        "a: take b\nb: skip -1 e\nc: case 0 f else d\nd: case 1 f 0 f else f\ne: case 1 c else g\nf: refuse\n"
        "g: cut",
    ),
    (
        "size: take p\np: jump 1 r\nr: jump 2 q\nq: case 0 body else p\nbody: skip 3 w\n"
        "w: case 2 end else no\nend: cut\nno: refuse",
        "size: take body\nbody: skip 1 a\na: case 0 no 2 no else b\nb: jump 1 t\nno: refuse\ncut: cut\n"
        "t: take body",
    ),
    (
        "a: take b\nb: skip -1 d\nc: case else d\nd: case 0 c else f\ne: refuse\nf: cut",
        "a: take b\nb: case 1 c else b\nc: skip 3 e\nd: refuse\ne: cut",
    ),
    (
        "a: take b\nb: case 0 b 1 c else d\nc: skip -2 e\nd: refuse\ne: cut",
        "a: take b\nb: skip -2 d\nc: refuse\nd: cut",
    ),
    (
        "a: take b\nb: jump 3 c\nc: case 2 b 1 d else b\nd: skip 2 f\ne: refuse\nf: cut",
        "a: take b\nb: skip 0 d\nc: refuse\nd: cut",
    ),
    (
        "a: take b\nb: skip -1 c\nc: case 1 d 0 d else e\nd: refuse\ne: cut",
        "a: take b\nb: case 1 c else b\nc: skip 0 e\nd: refuse\ne: cut",
    ),
    (
        "size: take p\np: case 1 body 2 r else w\nr: jump 3 q\nq: case 0 body else p\nbody: skip -1 w\n"
        "w: case 2 end else no\nend: cut\nno: refuse",
        "size: take body\nbody: skip 3 a\na: case 0 no 2 no else b\nb: case 0 no 2 no else c\n"
        "c: case 0 no else a\nno: refuse\ncut: cut",
    ),
    (
        "size: take body\nbody: skip 1 a\na: case 0 no 2 no else b\nb: case 0 no 2 no else c\n"
        "c: case 0 no else a\nno: refuse\ncut: cut\nt: take body",
        "size: take p\np: jump 2 r\nr: case 2 end 3 no else body\nq: case 0 body else p\nbody: skip 0 w\n"
        "w: case 2 end else no\nend: cut\nno: refuse",
    ),
    (
        "a: take b\nb: skip -1 d\nc: refuse\nd: cut",
        "a: take b\nb: jump 2 c\nc: jump 3 d\nd: case 2 e 1 b 0 g else g\ne: case 0 f 1 f else b\n"
        "f: skip 3 h\ng: refuse\nh: cut",
    ),
    (
        "a: take d\nb: skip -3 f\nc: case 2 f else e\nd: case 5 d 2 e else b\ne: refuse\nf: cut",
        "a: take b\nb: jump 4 e\nc: case 0 f 1 f 2 c else f\nd: case else b\ne: skip 1 c\nf: cut",
    ),
    (
        "size: take body\nbody: skip -3 a\na: case 0 no 2 no else b\nb: case 0 no else a\n"
        "no: case 0 size 1 t else a\ncut: case else no\nt: take body",
        "size: take p\np: jump 4 q\nq: case 0 body else p\nbody: skip -3 w\nw: case 2 end else no\nend: cut\n"
        "no: refuse",
    ),
    (
        "a: take b\nb: skip 0 c\nc: upto 0 d else g\nd: case 0 f else g\ne: case 0 f else f\nf: refuse\n"
        "g: cut",
        "a: take b\nb: case 0 c else c\nc: jump 4 d\nd: case 0 e else f\ne: skip 0 g\nf: refuse\ng: cut",
    ),
    (
        "a: take b\nb: jump 4 c\nc: jump 4 d\nd: case 0 e else e\ne: case 0 f else b\nf: skip -2 h\n"
        "g: refuse\nh: cut",
        "a: take b\nb: case 1 b 0 d else b\nd: skip -2 c\nc: jump 1 f\ne: refuse\nf: cut",
    ),
    (
        "size: take p\np: jump 2 r\nr: jump 3 q\nq: case 0 body else p\nbody: skip -2 w\nw: jump 4 body\n"
        "end: cut\nno: refuse",
        "size: take body\nbody: skip -2 a\na: jump 3 cut\nno: refuse\ncut: cut\nt: cap 0 size",
    ),
    (
        "size: take p\np: jump 4 r\nr: jump 3 q\nq: case 0 body else p\nbody: skip -1 w\n"
        "w: case 2 end else no\nend: jump 3 body\nno: case 2 w else size",
        "size: take body\nbody: skip 2 a\na: case 0 no 2 no else b\nb: case 0 no 2 no else c\n"
        "c: case 0 no 2 no else d\nd: case 2 c 0 size 1 size else size\ne: case 0 no else a\nno: refuse",
    ),
    (
        "a: take b\nb: jump 4 c\nc: case 0 d else b\nd: skip 3 f\ne: refuse\nf: cut",
        "a: take b\nb: skip 1 f\nc: case 0 f else h\nd: case 0 e else g\ne: take b\nf: cap 0 c\ng: refuse\n"
        "h: cut",
    ),
    (
        "a: take b\nb: case 0 f else c\nc: case 0 g else g\nf: skip -2 h\nd: case 0 h else e\ne: jump 1 h\n"
        "g: refuse\nh: cut",
        "a: take b\nb: jump 2 c\nc: case 0 g else d\nd: case 0 f else b\nf: skip 0 e\ne: case 0 g else h\n"
        "g: refuse\nh: cut",
    ),
    (
        "size: take body\nbody: skip -2 a\na: case 0 no 2 no else b\nb: case 0 no 2 no else c\nc: rest 3 d\n"
        "d: case 0 no else a\nno: refuse\ncut: cut",
        "size: take p\np: jump 2 q\nq: case 0 body else p\nbody: skip 2 w\nw: case 2 end else no\nend: cut\n"
        "no: refuse",
    ),
    (
        "a: take b\nb: case 0 c else d\nc: skip 3 e\nd: refuse\ne: cut",
        "a: take b\nb: skip -2 c\nc: case 1 f 0 d else h\nd: take b\ne: case else h\nf: case 1 g else g\n"
        "g: refuse\nh: cut",
    ),
)
