package code

// Writer is fields that are written.
type Writer struct {
	written []byte
}

// Num writes the lowest bytes of a number, the lowest one first.
func (w *Writer) Num(n uint64, size int) {
	for range numSize(size) {
		w.written = append(w.written, byte(n))
		n >>= 8
	}
}

// Bytes writes how many, and they.
func (w *Writer) Bytes(b []byte) {
	w.Num(uint64(len(b)), lengthSize)
	w.written = append(w.written, b...)
}

// Text writes a text.
func (w *Writer) Text(s string) {
	w.Num(uint64(len(s)), lengthSize)
	w.written = append(w.written, s...)
}

// Raw writes bytes as they are.
func (w *Writer) Raw(b []byte) {
	w.written = append(w.written, b...)
}

// Done is a copy of all that was written.
func (w *Writer) Done() []byte {
	return append([]byte(nil), w.written...)
}
