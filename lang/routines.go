package lang

// routines are what the machine has of each program: the image's front, beside names for numbers that stand ahead of it. A value is in hl; of two the left one is in de; the place that a trap tells is in bc. The program goes on behind the last one, which is where the machine starts.
const routines = `
org first
jp start

; the program ends with the value hl
end: ld a, l
ld [worth], a
ld a, h
ld [worth + 1], a
ld a, done
jp stay

; it ends by the trap a at bc
trap: ld [worth], a
ld a, c
ld [place], a
ld a, b
ld [place + 1], a
ld a, trapped
; this is written last: from then on nothing may change
stay: ld [status], a
.ever: jr .ever

; a function begins that was called at bc
enter: ldh a, [running]
cp a, calls
jr z, .deep
inc a
ldh [running], a
ret
.deep: ld a, toodeep
jp trap

; a function returns
leave: ldh a, [running]
dec a
ldh [running], a
ret

; the word at hl
fetch: ld a, [hl+]
ld h, [hl]
ld l, a
ret

; de is kept at hl
keep: ld a, e
ld [hl+], a
ld [hl], d
ret

; where the element de is of the array at hl, which has one more than a, and its name at bc
element: cp a, e
jr c, .far
ld a, d
or a, a
jr nz, .far
add hl, de
add hl, de
ret
.far: ld a, toofar
jp trap

; z: is hl 0?
test: ld a, h
or a, l
ret

; 0, if z is so, else 1
truth: ld hl, 0
ret z
inc l
ret

input: ld hl, 0
ldh a, [unread]
or a, a
ret z
dec a
ldh [unread], a
ldh a, [next]
ld l, a
ldh a, [next + 1]
ld h, a
ld a, [hl+]
ld e, a
ld a, [hl+]
ld d, a
ld a, l
ldh [next], a
ld a, h
ldh [next + 1], a
ld h, d
ld l, e
ret

left: ldh a, [unread]
ld l, a
ld h, 0
ret

; puts l out; the word that says so is at bc
output: ld a, [count + 1]
cp a, high(most)
jr z, .many
ld d, a
ld a, [count]
ld e, a
ld a, l
ld hl, bytes
add hl, de
ld [hl], a
inc de
ld a, e
ld [count], a
ld a, d
ld [count + 1], a
ret
.many: ld a, toomany
jp trap

; puts out the de bytes that stand behind the call, and goes on behind them
print: pop hl
.next: ld a, d
or a, e
jr z, .through
ld a, [hl+]
push hl
push de
ld l, a
call output
pop de
pop hl
dec de
jr .next
.through: jp hl

turn: ld a, l
cpl
ld l, a
ld a, h
cpl
ld h, a
ret

not: call test
ld hl, 1
ret z
dec l
ret

either: ld a, l
or a, e
ld l, a
ld a, h
or a, d
ld h, a
ret

differ: ld a, l
xor a, e
ld l, a
ld a, h
xor a, d
ld h, a
ret

both: ld a, l
and a, e
ld l, a
ld a, h
and a, d
ld h, a
ret

plus: add hl, de
ret

negate: ld de, 0
minus: ld a, e
sub a, l
ld l, a
ld a, d
sbc a, h
ld h, a
ret

same: call minus
jp not

other: call minus
call test
jp truth

; c: is de below hl?
order: ld a, e
sub a, l
ld a, d
sbc a, h
ret

; c: is hl below de?
disorder: ld a, l
sub a, e
ld a, h
sbc a, d
ret

below: call order
; 1, if c is so, else 0
carried: ld hl, 0
ret nc
inc l
ret

above: call disorder
jp carried

notbelow: call order
jp spared

notabove: call disorder
; 0, if c is so, else 1
spared: ld hl, 0
ret c
inc l
ret

times: ld b, h
ld c, l
ld hl, 0
ld a, 16
.round: add hl, hl
sla e
rl d
jr nc, .less
add hl, bc
.less: dec a
jr nz, .round
ret

; de is what de by hl gives, hl is what is left; the sign is at bc
divide: call test
jr z, .nought
ld b, h
ld c, l
ld hl, 0
ld a, 16
.round: ldh [rounds], a
sla e
rl d
rl l
rl h
; what is left has 17 bits here
jr c, .take
ld a, l
sub a, c
ld a, h
sbc a, b
jr c, .less
.take: ld a, l
sub a, c
ld l, a
ld a, h
sbc a, b
ld h, a
inc e
.less: ldh a, [rounds]
dec a
jr nz, .round
ret
.nought: ld a, bynought
jp trap

over: call divide
ld h, d
ld l, e
ret

rest: jr divide

up: call shifted
ret z
.next: add hl, hl
dec a
jr nz, .next
ret

down: call shifted
ret z
.next: srl h
rr l
dec a
jr nz, .next
ret

; hl is what is to be shifted, a by how many places; z: by none, or hl is 0, being shifted out
shifted: ld a, h
or a, a
jr nz, .out
ld a, l
cp a, 16
jr nc, .out
ld h, d
ld l, e
or a, a
ret
.out: ld hl, 0
xor a, a
ret

start: ld sp, stack
ld a, [numbers]
ldh [unread], a
ld a, low(numbers + 2)
ldh [next], a
ld a, high(numbers + 2)
ldh [next + 1], a
`
